package study

import "math/bits"

// set is places of a list, each as one bit: a list has no more rules than a word has bits.
type set uint64

// pair is places of two lists; of one list alone the second set is empty.
type pair [2]set

func one(place int) set { return 1 << place }

// below is the places ahead of one. A word that is shifted by all of its bits is 0, and one less than that is all ones.
func below(place int) set { return 1<<place - 1 }

// first is the least place; of an empty set one that no list has.
func (s set) first() int { return bits.TrailingZeros64(uint64(s)) }

func (s set) without(place int) set { return s &^ one(place) }

// list is the places, rising.
func (s set) list() []int {
	var places []int
	for s != 0 {
		places = append(places, s.first())
		s = s.without(s.first())
	}
	return places
}

func (p pair) and(q pair) pair { return pair{p[0] & q[0], p[1] & q[1]} }

func (p pair) meets(q pair) bool { return p.and(q) != pair{} }
