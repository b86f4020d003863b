package prune

import (
	"quintet/api"
	"quintet/bits"
	"quintet/prefix"
)

// forest is the trie of the sources and, at each of these, a trie of destinations. All nodes lie in one list and know one another by their places in it; the first one, if there are rules, is the root of the sources. So 0 is no node's child and no root of destinations, and stands for none.
type forest struct {
	nodes []node
	lists [][]int // places of rules, rising
}

// node is a prefix in one of the tries.
type node struct {
	kids  [2]int // by the bit behind the prefix
	bears int    // a source: the root of its destinations; a destination: its list, counted from 1 on; 0: neither
}

// plant makes the tries of rules that may be.
func plant(l []api.Rule) forest {
	var f forest
	if len(l) == 0 {
		return f
	}
	root := f.grow()
	for _, r := range l {
		source := f.reach(root, r.Src)
		if f.nodes[source].bears == 0 {
			below := f.hang(l, holding(l, r.Src))
			f.nodes[source].bears = below
		}
	}
	return f
}

// hang makes the trie of the destinations of the rules at these places, and tells its root.
func (f *forest) hang(l []api.Rule, places []int) int {
	root := f.grow()
	for _, place := range places {
		dst := l[place].Dst
		target := f.reach(root, dst)
		if f.nodes[target].bears == 0 {
			f.lists = append(f.lists, among(l, places, dst))
			f.nodes[target].bears = len(f.lists)
		}
	}
	return root
}

// reach goes from a root to a prefix, and makes the nodes that are missing on the way.
func (f *forest) reach(root int, p api.Prefix) int {
	at := root
	for i := range p.Len {
		bit, _ := bits.At(p.Addr, i)
		if f.nodes[at].kids[bit] == 0 {
			kid := f.grow() // ahead of the assignment, since the list may be moved by it
			f.nodes[at].kids[bit] = kid
		}
		at = f.nodes[at].kids[bit]
	}
	return at
}

func (f *forest) grow() int {
	f.nodes = append(f.nodes, node{})
	return len(f.nodes) - 1
}

// find is the list of the rules that have both of a header's addresses, and how many nodes were gone through up to it.
func (f *forest) find(h api.Header) ([]int, int) {
	if len(f.nodes) == 0 {
		return nil, 0
	}
	below, sources := f.longest(0, h.Src)
	if below == 0 {
		return nil, sources
	}
	list, targets := f.longest(below, h.Dst)
	if list == 0 {
		return nil, sources + targets
	}
	return f.lists[list-1], sources + targets
}

// longest goes from a root along an address, as far as there are nodes, and tells what the last one bears that bears something, and how many there were. Behind the last bit bits.At tells 0, and there is no child.
func (f *forest) longest(root int, addr uint32) (bears, gone int) {
	for at, more := root, true; more; gone++ {
		here := f.nodes[at]
		if here.bears != 0 {
			bears = here.bears
		}
		bit, _ := bits.At(addr, gone)
		at = here.kids[bit]
		more = at != 0
	}
	return bears, gone
}

func (f *forest) entries() int {
	sum := 0
	for _, list := range f.lists {
		sum += len(list)
	}
	return sum
}

// holding are the places of the rules whose Src holds src.
func holding(l []api.Rule, src api.Prefix) []int {
	var places []int
	for place, r := range l {
		if prefix.Within(src, r.Src) {
			places = append(places, place)
		}
	}
	return places
}

// among are those of the places whose rules have a Dst that holds dst.
func among(l []api.Rule, places []int, dst api.Prefix) []int {
	var list []int
	for _, place := range places {
		if prefix.Within(dst, l[place].Dst) {
			list = append(list, place)
		}
	}
	return list
}
