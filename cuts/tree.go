package cuts

import (
	"quintet/api"
	"quintet/box"
	"quintet/rule"
)

// node is an inner one with two kids, or a leaf with a list.
type node struct {
	low  api.Box  // of an inner node: the box of its lower half
	kids *[2]node // the lower half and the upper one; nil of a leaf
	list []int    // of a leaf: places of rules, rising
}

// plant makes the tree of rules that may be.
func plant(l []api.Rule, binth, depth int) node {
	return grow(all(l), trials(), binth, depth)
}

// all is the part that has all headers.
func all(l []api.Rule) part {
	p := part{box: box.Whole()}
	for place, r := range l {
		own, _ := rule.Box(r)
		p.rules = append(p.rules, entry{place, own})
		if p.settled() {
			break
		}
	}
	return p
}

// grow makes the node of a part below which at most so many cuts may follow one another.
func grow(p part, by []trial, binth, depth int) node {
	if len(p.rules) <= binth || depth == 0 {
		return node{list: p.places()}
	}
	c := best(p, by)
	low, high := grow(c.low, by, binth, depth-1), grow(c.high, by, binth, depth-1)
	return node{low: c.low.box, kids: &[2]node{low, high}}
}

// find goes with a header down to its leaf, and tells the places there and how deep it stands. A header that lies in a node lies in one of its halves, so that the lower one alone is asked.
func (n *node) find(h api.Header) (places []int, depth int) {
	for ; n.kids != nil; depth++ {
		side := 1
		if box.Has(n.low, h) {
			side = 0
		}
		n = &n.kids[side]
	}
	return n.list, depth
}

// size is how many nodes there are from this one on, and how many places in their lists.
func (n *node) size() (nodes, entries int) {
	nodes, entries = 1, len(n.list)
	if n.kids == nil {
		return nodes, entries
	}
	for i := range n.kids {
		below, held := n.kids[i].size()
		nodes, entries = nodes+below, entries+held
	}
	return nodes, entries
}
