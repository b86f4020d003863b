package study

import (
	"cmp"
	"math"
	"slices"

	"quintet/api"
	"quintet/mask"
	"quintet/rule"
)

// class is numbers of a field that the same rules hold.
type class struct {
	least   uint32
	holders pair
}

// cells is the classes of the five fields, in the order of the header's, each field's by rising least numbers.
type cells [5][]class

// boxes is the sets of the rules of two lists.
type boxes [2][]api.Box

// cellsOf is the cells of the rules of two lists together, or of one, if the second has none. Both lists' own errors are told ahead of too many cells.
func cellsOf(l, m []api.Rule) (cells, api.Errno) {
	if err := cmp.Or(check(l), check(m)); err != api.OK {
		return cells{}, err
	}
	all := boxes{boxesOf(l), boxesOf(m)}
	c := cells{
		all.ranged(math.MaxUint32, func(b api.Box) api.Run { return b.Src }),
		all.ranged(math.MaxUint32, func(b api.Box) api.Run { return b.Dst }),
		all.ranged(math.MaxUint16, func(b api.Box) api.Run { return wide(b.Sport) }),
		all.ranged(math.MaxUint16, func(b api.Box) api.Run { return wide(b.Dport) }),
		all.masked(),
	}
	if c.count() > api.MaxCells {
		return cells{}, api.ErrStudyMany
	}
	return c, api.OK
}

// count is how many cells there are; if these are more than may be, one more than that, since the whole number may be too great for an int.
func (c cells) count() int {
	n := 1
	for _, classes := range c {
		n = min(n*len(classes), api.MaxCells+1)
	}
	return n
}

// find is the least header in a cell that fits, of those in which a rule of want matches.
func (c cells) find(want pair, fits func(here pair) bool) (least api.Header, ok bool) {
	c.walk(want, func(h api.Header, here pair) pair {
		if !fits(here) {
			return want
		}
		least, ok = h, true
		return pair{}
	})
	return least, ok
}

// walk shows the least header of each cell in which a rule of want matches, and the rules that match there, by rising headers. What it is answered is wanted from there on; it ends when that is nothing. Each loop asks at its head whether the ones around it still have a rule that is wanted, and else goes on with the next one out.
func (c cells) walk(want pair, show func(h api.Header, here pair) pair) {
sources:
	for _, src := range c[0] {
	targets:
		for _, dst := range c[1] {
			if !want.meets(src.holders) {
				continue sources
			}
			addresses := src.holders.and(dst.holders)
		senders:
			for _, sport := range c[2] {
				if !want.meets(addresses) {
					continue targets
				}
				sent := addresses.and(sport.holders)
			receivers:
				for _, dport := range c[3] {
					if !want.meets(sent) {
						continue senders
					}
					ports := sent.and(dport.holders)
					for _, proto := range c[4] {
						if !want.meets(ports) {
							continue receivers
						}
						here := ports.and(proto.holders)
						if !want.meets(here) {
							continue
						}
						want = show(corner(src, dst, sport, dport, proto), here)
						if want == (pair{}) {
							break sources
						}
					}
				}
			}
		}
	}
}

// corner is the least header of a cell.
func corner(src, dst, sport, dport, proto class) api.Header {
	return api.Header{
		Src: src.least, Dst: dst.least,
		Sport: uint16(sport.least), Dport: uint16(dport.least),
		Proto: uint8(proto.least),
	}
}

// ranged is the classes of a field of addresses or of ports.
func (all boxes) ranged(greatest uint32, run func(api.Box) api.Run) []class {
	var classes []class
	for _, n := range all.starts(greatest, run) {
		holders := all.having(func(b api.Box) bool { return run(b).Lo <= n && n <= run(b).Hi })
		classes = append(classes, class{n, holders})
	}
	return classes
}

// starts is the numbers with which the classes of a field begin, rising.
func (all boxes) starts(greatest uint32, run func(api.Box) api.Run) []uint32 {
	list := []uint32{0}
	for _, b := range slices.Concat(all[:]...) {
		list = append(list, run(b).Lo)
		if run(b).Hi < greatest {
			list = append(list, run(b).Hi+1)
		}
	}
	slices.Sort(list)
	return slices.Compact(list)
}

// masked is the classes of the protocols: the first one of each is met ahead of the others.
func (all boxes) masked() []class {
	var classes []class
	for n := range uint32(math.MaxUint8 + 1) {
		holders := all.having(func(b api.Box) bool { return mask.Has(b.Proto, uint8(n)) })
		if !slices.ContainsFunc(classes, func(c class) bool { return c.holders == holders }) {
			classes = append(classes, class{n, holders})
		}
	}
	return classes
}

// having is the places of the boxes that are as is asked.
func (all boxes) having(is func(api.Box) bool) pair {
	var places pair
	for i, list := range all {
		for place, b := range list {
			if is(b) {
				places[i] |= one(place)
			}
		}
	}
	return places
}

// boxesOf is the sets of rules that may be, so that there is no error.
func boxesOf(l []api.Rule) []api.Box {
	list := make([]api.Box, len(l))
	for i, r := range l {
		list[i], _ = rule.Box(r)
	}
	return list
}

// wide is a span of ports as a run.
func wide(s api.Span) api.Run { return api.Run{Lo: uint32(s.Lo), Hi: uint32(s.Hi)} }
