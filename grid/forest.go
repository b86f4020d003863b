package grid

import (
	"slices"

	"quintet/api"
	"quintet/bits"
	"quintet/prefix"
)

// forest is the trie of the sources and, at each of these, a trie of destinations, joined by switches. Without rules it has no nodes.
type forest struct {
	nodes []node // all of them know one another by their places here
	long  []int  // the nodes' lists, one behind the other
}

// node is a prefix in one of the tries.
type node struct {
	next  [2]int // by the bit behind the prefix: the child; of a destination that has none, the switch
	below int    // of a source: the root of its destinations
	list  []int  // of a destination: places of rules, rising
}

// Two places among the nodes.
const (
	nowhere = 0 // a node of noughts: from it all ways lead to itself, so that none has to be asked for ahead
	root    = 1 // of the sources
)

// plant makes the tries of rules that may be. The lists are filled ahead of the switches, since a destination is sought along children alone.
func plant(l []api.Rule) forest {
	if len(l) == 0 {
		return forest{}
	}
	f := forest{nodes: []node{nowhere: {}, root: {}}}
	f.sow(l)
	f.fill(f.entries(l))
	f.join(root, nowhere)
	return f
}

// sow makes the nodes: each source has the destinations of its own rules.
func (f *forest) sow(l []api.Rule) {
	for _, r := range l {
		source := f.reach(root, r.Src)
		if f.nodes[source].below == nowhere {
			below := f.grow() // ahead of the assignment, since the list may be moved by it
			f.nodes[source].below = below
		}
		f.reach(f.nodes[source].below, r.Dst)
	}
}

// reach goes from a root to a prefix, and makes the nodes that are missing on the way.
func (f *forest) reach(from int, p api.Prefix) int {
	at := from
	for i := range p.Len {
		bit, _ := bits.At(p.Addr, i)
		if f.nodes[at].next[bit] == nowhere {
			kid := f.grow() // ahead of the assignment, as in sow
			f.nodes[at].next[bit] = kid
		}
		at = f.nodes[at].next[bit]
	}
	return at
}

func (f *forest) grow() int {
	f.nodes = append(f.nodes, node{})
	return len(f.nodes) - 1
}

// entry says that a rule's place stands in a node's list.
type entry struct{ node, place int }

// entries are all of them, by rising places in each node: below each source the rules whose Src holds it, as far as their destinations have nodes there.
func (f *forest) entries(l []api.Rule) []entry {
	var all []entry
	for _, src := range sources(l) {
		below := f.nodes[f.seek(root, src)].below
		for place, r := range l {
			if at := f.seek(below, r.Dst); at != nowhere && prefix.Within(src, r.Src) {
				all = append(all, entry{at, place})
			}
		}
	}
	return all
}

// seek goes from a root to a prefix, and ends nowhere if that has no node.
func (f *forest) seek(from int, p api.Prefix) int {
	at := from
	for i := range p.Len {
		bit, _ := bits.At(p.Addr, i)
		at = f.nodes[at].next[bit]
	}
	return at
}

// fill cuts the lists out of one long list, each with just the room that it needs, so that none grows into the next one.
func (f *forest) fill(all []entry) {
	room := make([]int, len(f.nodes))
	for _, e := range all {
		room[e.node]++
	}
	f.long = make([]int, len(all))
	from := 0
	for at, n := range room {
		f.nodes[at].list = f.long[from : from : from+n]
		from += n
	}
	for _, e := range all {
		f.nodes[e.node].list = append(f.nodes[e.node].list, e.place)
	}
}

// join lays the switches below a source and all longer ones; above is the root of the destinations of the nearest shorter one, whose switches are laid already.
func (f *forest) join(source, above int) {
	if source == nowhere {
		return
	}
	if below := f.nodes[source].below; below != nowhere {
		f.link(below, above)
		above = below
	}
	for _, kid := range f.nodes[source].next {
		f.join(kid, above)
	}
}

// link lays the switches from a destination on; there is the same destination in the nearest shorter source that has it. Sources between the two have it not, and so nothing beyond it.
func (f *forest) link(at, there int) {
	for bit, kid := range f.nodes[at].next {
		beyond := f.nodes[there].next[bit]
		if kid == nowhere {
			f.nodes[at].next[bit] = beyond
		} else {
			f.link(kid, beyond)
		}
	}
}

// find are the lists in which the rules stand that have both of a header's addresses, each of them once, and how many nodes were gone through.
func (f *forest) find(h api.Header) (lists [][]int, gone int) {
	if f.size() == 0 {
		return nil, 0
	}
	down := f.path(root, h.Src)
	below := nowhere
	for _, at := range down {
		if f.nodes[at].below != nowhere {
			below = f.nodes[at].below
		}
	}
	across := f.path(below, h.Dst)
	for _, at := range across {
		lists = append(lists, f.nodes[at].list)
	}
	return lists, len(down) + len(across)
}

// path are the nodes from one on along an address, by children and switches: one of each length, as far as there are some. Behind the last bit bits.At tells 0, and nothing is next.
func (f *forest) path(from int, addr uint32) []int {
	var way []int
	for at := from; at != nowhere; {
		bit, _ := bits.At(addr, len(way))
		way = append(way, at)
		at = f.nodes[at].next[bit]
	}
	return way
}

// size is how many nodes there are; the one that is nowhere is none.
func (f *forest) size() int { return max(len(f.nodes)-1, 0) }

// sources are the rules' Srcs, each of them once.
func sources(l []api.Rule) []api.Prefix {
	list := make([]api.Prefix, len(l))
	for i, r := range l {
		list[i] = r.Src
	}
	slices.SortFunc(list, prefix.Compare)
	return slices.Compact(list)
}
