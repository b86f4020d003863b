package cuts

import (
	"math"
	"slices"
	"testing"

	"quintet/api"
	"quintet/box"
	"quintet/rule"
)

// drawn are n rules whose fields lie within one another often.
func drawn(seed uint64, n int) []api.Rule {
	draw := func(n int) int {
		seed = seed*6364136223846793005 + 1442695040888963407
		return int(seed >> 33 % uint64(n))
	}
	part := func() api.Prefix {
		n := []int{0, 1, 2, draw(6), draw(33)}[draw(5)]
		return api.Prefix{Addr: uint32(uint64(draw(1<<31)) * 2 >> (32 - n) << (32 - n)), Len: n}
	}
	ports := func() api.Span {
		a, b := uint16(draw(1<<16)), uint16(draw(1<<16))
		return []api.Span{{Hi: math.MaxUint16}, {Hi: math.MaxUint16}, {Lo: a, Hi: a}, {Lo: min(a, b), Hi: max(a, b)}}[draw(4)]
	}
	l := make([]api.Rule, n)
	for i := range l {
		l[i] = rule.All(i+1, api.Permit)
		l[i].Src, l[i].Dst, l[i].Sport, l[i].Dport = part(), part(), ports(), ports()
		l[i].Proto.Care = []uint8{0, 0, 1, 255, uint8(draw(256))}[draw(5)]
		l[i].Proto.Value = uint8(draw(256)) & l[i].Proto.Care
	}
	return l
}

// boxes are the rules' own.
func boxes(l []api.Rule) []api.Box {
	list := make([]api.Box, len(l))
	for i, r := range l {
		list[i], _ = rule.Box(r)
	}
	return list
}

// inside are the places of the boxes that have something in common with b, up to the first that has all of it.
func inside(b api.Box, list []api.Box) []int {
	var places []int
	for place, own := range list {
		if _, ok := box.Meet(b, own); ok {
			places = append(places, place)
		}
		if box.Within(b, own) {
			break
		}
	}
	return places
}

// walk goes through a tree, and hands out each leaf with its box and how deep it stands.
func walk(t *testing.T, n *node, b api.Box, depth int, leaf func(n *node, b api.Box, depth int)) {
	if n.kids == nil {
		leaf(n, b, depth)
		return
	}
	rest := box.Less(b, n.low)
	if len(n.list) != 0 || !box.Within(n.low, b) || len(rest) != 1 {
		t.Fatalf("an inner node of %+v: %+v", b, n)
	}
	halfHigh, halfLow := box.Count(n.low)
	restHigh, restLow := box.Count(rest[0])
	if halfHigh != restHigh || halfLow != restLow {
		t.Fatalf("%+v and %+v are no halves", n.low, rest[0])
	}
	walk(t, &n.kids[0], n.low, depth+1, leaf)
	walk(t, &n.kids[1], rest[0], depth+1, leaf)
}

// Each node has halves that are alike in size; each leaf has just the rules that decide something there.
func TestLeaves(t *testing.T) {
	for seed := range uint64(60) {
		l := drawn(seed, int(seed))
		own, binth, most := boxes(l), 1+int(seed)%5, int(seed)%11
		root := plant(l, binth, most)
		nodes, entries := 0, 0
		walk(t, &root, box.Whole(), 0, func(n *node, b api.Box, depth int) {
			if want := inside(b, own); !slices.Equal(n.list, want) {
				t.Fatalf("the leaf of %+v has %v, wanted %v of %v", b, n.list, want, l)
			}
			if depth > most || depth < most && len(n.list) > binth {
				t.Fatalf("at the depth %d of %d a leaf has %d rules, Binth %d", depth, most, len(n.list), binth)
			}
			first, _ := box.First(b)
			if places, at := root.find(first); at != depth || !slices.Equal(places, n.list) {
				t.Fatalf("find(%+v): %v at %d, wanted %v at %d", first, places, at, n.list, depth)
			}
			nodes, entries = nodes+1, entries+len(n.list)
		})
		nodes = 2*nodes - 1 // an inner one less than leaves
		if n, e := root.size(); n != nodes || e != entries {
			t.Errorf("size: %d, %d, wanted %d, %d", n, e, nodes, entries)
		}
	}
}

// The chapter's way to choose: the half that has more rules has fewest; then both together; then the first field.
func TestTheFieldByWhichANodeIsCut(t *testing.T) {
	src := func(addr uint32, n int) func(*api.Rule) {
		return func(r *api.Rule) { r.Src = api.Prefix{Addr: addr, Len: n} }
	}
	dst := func(addr uint32, n int) func(*api.Rule) {
		return func(r *api.Rule) { r.Dst = api.Prefix{Addr: addr, Len: n} }
	}
	sport := func(lo, hi uint16) func(*api.Rule) { return func(r *api.Rule) { r.Sport = api.Span{Lo: lo, Hi: hi} } }
	dport := func(lo, hi uint16) func(*api.Rule) { return func(r *api.Rule) { r.Dport = api.Span{Lo: lo, Hi: hi} } }
	proto := func(value, care uint8) func(*api.Rule) {
		return func(r *api.Rule) { r.Proto = api.Mask{Value: value, Care: care} }
	}
	half := func(change func(*api.Box)) api.Box {
		b := box.Whole()
		change(&b)
		return b
	}
	lowSrc := half(func(b *api.Box) { b.Src.Hi = 1<<31 - 1 })
	lowDst := half(func(b *api.Box) { b.Dst.Hi = 1<<31 - 1 })
	lowSport := half(func(b *api.Box) { b.Sport.Hi = 1<<15 - 1 })
	lowDport := half(func(b *api.Box) { b.Dport.Hi = 1<<15 - 1 })
	lowProto := half(func(b *api.Box) { b.Proto.Care = 128 })
	for _, c := range []struct {
		name    string
		changes [][]func(*api.Rule)
		low     api.Box
	}{
		{"nothing parts them", [][]func(*api.Rule){{proto(0, 1)}, {proto(0, 1)}}, lowSrc},
		{"the source", [][]func(*api.Rule){{src(0, 1)}, {src(1<<31, 1)}}, lowSrc},
		{"the destination", [][]func(*api.Rule){{dst(0, 1)}, {dst(1<<31, 1)}}, lowDst},
		{"the source port", [][]func(*api.Rule){{sport(5, 32767)}, {sport(32768, 32768)}}, lowSport},
		{"the destination port", [][]func(*api.Rule){{dport(0, 0)}, {dport(40000, 65535)}}, lowDport},
		{"the protocol", [][]func(*api.Rule){{proto(0, 128)}, {proto(128, 128)}}, lowProto},
		{"all five: the first", [][]func(*api.Rule){{src(0, 1), dst(0, 1), sport(0, 1), dport(0, 1), proto(0, 128)}, {src(1<<31, 1), dst(1<<31, 1), sport(40000, 65535), dport(40000, 65535), proto(128, 128)}}, lowSrc},
		{"3 and 1 against 2 and 2", [][]func(*api.Rule){{src(0, 1), dport(0, 1)}, {src(0, 1), dport(0, 1)}, {src(0, 1), dport(40000, 65535)}, {src(1<<31, 1), dport(40000, 65535)}}, lowDport},
		{"2 and 2 against 2 and 1", [][]func(*api.Rule){{src(0, 1), sport(0, 1)}, {proto(1, 1), sport(0, 1)}, {src(1<<31, 1), sport(40000, 65535)}}, lowSport},
	} {
		l := make([]api.Rule, len(c.changes))
		for i, changes := range c.changes {
			l[i] = rule.All(i+1, api.Permit)
			for _, change := range changes {
				change(&l[i])
			}
		}
		if root := plant(l, 1, 1); root.kids == nil || root.low != c.low {
			t.Errorf("%s: %+v, wanted %+v", c.name, root.low, c.low)
		}
	}
}

// A field that has but one number left is not cut any more.
func TestTrialsOfSmallParts(t *testing.T) {
	for i, by := range trials() {
		for _, c := range []struct {
			box      api.Box
			cuttable bool
		}{
			{api.Box{Proto: api.Mask{Care: 255}}, false},
			{api.Box{Src: api.Run{Lo: 7, Hi: 7}, Dst: api.Run{Lo: math.MaxUint32, Hi: math.MaxUint32}, Sport: api.Span{Lo: 1, Hi: 1}, Dport: api.Span{Lo: 65535, Hi: 65535}, Proto: api.Mask{Value: 255, Care: 255}}, false},
			{api.Box{Src: api.Run{Lo: 6, Hi: 7}, Dst: api.Run{Lo: math.MaxUint32 - 1, Hi: math.MaxUint32}, Sport: api.Span{Hi: 1}, Dport: api.Span{Lo: 65534, Hi: 65535}, Proto: api.Mask{Value: 2, Care: 254}}, true},
			{box.Whole(), true},
		} {
			got, ok := by(part{box: c.box})
			if ok != c.cuttable {
				t.Errorf("trial %d of %+v: %v", i, c.box, ok)
			}
			rest := box.Less(c.box, got.low.box)
			if ok && (len(rest) != 1 || rest[0] != got.high.box) {
				t.Errorf("trial %d of %+v: %+v", i, c.box, got)
			}
		}
	}
}
