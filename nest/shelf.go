package nest

import (
	"cmp"
	"slices"

	"quintet/api"
)

// spread gives each unlike span of a list, all of which may be, its level. No span ahead in the order begins higher, so that it shares a port with a later one just if it ends no lower than that begins.
func spread(l []api.Span) map[api.Span]int {
	order := inOrder(l)
	levels := make(map[api.Span]int, len(order))
	taken := newShelf(len(order))
	for _, s := range order {
		level := taken.least(int(s.Lo))
		taken.put(level, int(s.Hi))
		levels[s] = level
	}
	return levels
}

// inOrder is a list's unlike spans, as they are gone through: by Lo, and of the same Lo the greater Hi first.
func inOrder(l []api.Span) []api.Span {
	order := slices.Clone(l)
	slices.SortFunc(order, func(a, b api.Span) int {
		return cmp.Or(cmp.Compare(a.Lo, b.Lo), cmp.Compare(b.Hi, a.Hi))
	})
	return slices.Compact(order)
}

// count is how many levels there are. A level is given only where all below it are taken, so that none is left out.
func count(levels []int) int {
	most := 0
	for _, level := range levels {
		most = max(most, level+1)
	}
	return most
}

// vacant stands for the last port of a level without spans: all ports are above it.
const vacant = -1

// shelf keeps of each level the last port that is taken there, as a tree in a list, so that a level is found without going through all of them: the node 1 is the top, below the node n stand 2n and 2n+1, the list's second half is the levels, and each node above has the least of what stands below it.
type shelf []int

// newShelf has at least that many levels.
func newShelf(levels int) shelf {
	half := 1
	for half < levels {
		half *= 2
	}
	return slices.Repeat(shelf{vacant}, 2*half)
}

// least is the least level on which nothing is taken from that port on. Callers see to it that there is one: each span takes one level at most, and there are no fewer levels than spans.
func (s shelf) least(lo int) int {
	half := len(s) / 2
	node := 1
	for node < half {
		node *= 2
		if s[node] >= lo {
			node++
		}
	}
	return node - half
}

// put says that a level is taken up to that port.
func (s shelf) put(level, hi int) {
	node := len(s)/2 + level
	s[node] = hi
	for node > 1 {
		node /= 2
		s[node] = min(s[2*node], s[2*node+1])
	}
}
