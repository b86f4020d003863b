package tuple

import (
	"maps"
	"math"
	"slices"
	"testing"

	"quintet/api"
	"quintet/prefix"
	"quintet/rule"
)

// drawer gives numbers by a rule that goes all about, the same each time.
func drawer(state uint64) func(n int) int {
	return func(n int) int {
		state = state*6364136223846793005 + 1442695040888963407
		return int(state >> 33 % uint64(n))
	}
}

// drawn are n rules of few prefixes, so that many share a tuple, and headers that lie in one of them or beside it.
func drawn(seed uint64, n int) ([]api.Rule, []api.Header) {
	draw := drawer(seed)
	part := func() api.Prefix {
		p, _ := prefix.Of([]uint32{0x0a010203, 0x0a010202, math.MaxUint32}[draw(3)], []int{0, 8, 31, 32}[draw(4)])
		return p
	}
	ports := func() api.Span {
		lo := uint16(draw(100))
		return []api.Span{{Hi: math.MaxUint16}, {Lo: lo, Hi: lo + uint16(draw(1000))}, {Lo: 1, Hi: 6}}[draw(3)]
	}
	var l []api.Rule
	var heads []api.Header
	for i := range n {
		care := uint8([]int{0, 255, 5}[draw(3)])
		l = append(l, api.Rule{
			Id: 100 - i, Src: part(), Dst: part(), Sport: ports(), Dport: ports(),
			Proto: api.Mask{Value: uint8(draw(256)) & care, Care: care}, Action: api.Permit,
		})
	}
	for range 20 * n {
		r := l[draw(n)]
		heads = append(heads, api.Header{
			Src: r.Src.Addr + uint32(draw(2)), Dst: r.Dst.Addr + uint32(draw(2)),
			Sport: r.Sport.Lo + uint16(draw(8)), Dport: r.Dport.Lo + uint16(draw(8)), Proto: r.Proto.Value + uint8(draw(2)),
		})
	}
	return l, heads
}

// laid is the space of rules that came all at once.
func laid(l []api.Rule) space {
	s := newSpace()
	s.settle(l, l...)
	return s
}

func TestCuts(t *testing.T) {
	h := api.Header{Src: math.MaxUint32, Dst: 0xf1f2f3f4, Sport: math.MaxUint16, Dport: 0xe1e2, Proto: 0xa5}
	for _, c := range []struct {
		tuple tuple
		want  api.Header
	}{
		{tuple{}, api.Header{}},
		{tuple{32, 32, 16, 16, 255}, h},
		{tuple{1, 8, 1, 8, 1}, api.Header{Src: 1 << 31, Dst: 0xf1000000, Sport: 1 << 15, Dport: 0xe100, Proto: 1}},
		{tuple{31, 9, 15, 9, 0xa0}, api.Header{Src: 0xfffffffe, Dst: 0xf1800000, Sport: 0xfffe, Dport: 0xe180, Proto: 0xa0}},
		{tuple{32, 0, 0, 16, 0x5a}, api.Header{Src: h.Src, Dport: h.Dport}},
		{tuple{0, 32, 16, 0, 0x0f}, api.Header{Dst: h.Dst, Sport: h.Sport, Proto: 5}},
	} {
		if got := c.tuple.cuts().header(h); got != c.want {
			t.Errorf("%+v cuts to %+v, wanted %+v", c.tuple, got, c.want)
		}
	}
}

// What stands at a spot is as its tuple cuts it, so that it is found again; and no spot is told twice.
func TestSpots(t *testing.T) {
	for seed := range uint64(20) {
		l, _ := drawn(seed, 20)
		for _, r := range l {
			told := map[spot]int{}
			for _, at := range spots(r) {
				told[at]++
				if at.tuple.cuts().header(at.head) != at.head || !rule.Match(r, at.head) {
					t.Fatalf("%+v of %+v", at, r)
				}
			}
			if len(told) != len(spots(r)) {
				t.Fatalf("%d spots of %+v, %d of them unlike", len(spots(r)), r, len(told))
			}
		}
	}
}

// All tables together have just the rules that match a header, each of them once; and each list rises.
func TestEachRuleIsFoundOnce(t *testing.T) {
	for seed := range uint64(30) {
		l, heads := drawn(seed, 1+2*int(seed))
		place := func(id int) int { return slices.IndexFunc(l, func(r api.Rule) bool { return r.Id == id }) }
		s := laid(l)
		for _, h := range heads {
			var want, got []int
			for i, r := range l {
				if rule.Match(r, h) {
					want = append(want, i)
				}
			}
			for _, g := range s.groups {
				ids, _ := g.find(h)
				if !slices.IsSortedFunc(ids, func(a, b int) int { return place(a) - place(b) }) {
					t.Fatalf("%v does not rise in %v", ids, l)
				}
				for _, id := range ids {
					got = append(got, place(id))
				}
			}
			slices.Sort(got)
			if !slices.Equal(got, want) {
				t.Fatalf("%+v finds %v, wanted %v of %v", h, got, want, l)
			}
		}
	}
}

// content is what a space has: under each tuple and header the Ids there, and how many slots each table has.
func content(s space) (map[spot][]int, map[tuple]int) {
	held, slots := map[spot][]int{}, map[tuple]int{}
	for t, g := range s.groups {
		slots[t] = g.ids.Slots()
		for head, ids := range g.ids.All() {
			held[spot{t, head}] = ids
		}
	}
	return held, slots
}

func sameContent(t *testing.T, a, b space) {
	t.Helper()
	held, slots := content(a)
	held2, slots2 := content(b)
	if !maps.EqualFunc(held, held2, slices.Equal[[]int]) || !maps.Equal(slots, slots2) {
		t.Fatalf("%v, %v, wanted %v, %v", held, slots, held2, slots2)
	}
}

// Rules that come and go one by one leave what rules that come all at once lay: there is no table without an entry, nor a slot of what went.
func TestWhatGoesLeavesNothing(t *testing.T) {
	for seed := range uint64(12) {
		l, _ := drawn(seed, 1+3*int(seed))
		e, _ := New(api.Config{Max: 64, Default: api.Deny, Tuple: api.MaxBudget, Binth: 1})
		for i, r := range l {
			if err := e.Insert(0, r); err != api.OK {
				t.Fatal(err)
			}
			now := slices.Clone(l[:i+1])
			slices.Reverse(now)
			sameContent(t, e.tuples, laid(now))
		}
		for i, r := range l {
			if err := e.Delete(r.Id); err != api.OK {
				t.Fatal(err)
			}
			now := slices.Clone(l[i+1:])
			slices.Reverse(now)
			sameContent(t, e.tuples, laid(now))
		}
		if len(e.tuples.groups) != 0 || len(e.tuples.turns) != 0 {
			t.Fatalf("left: %v", e.tuples)
		}
	}
}

// Each table has one turn, with the least place of its rules; and the turns rise.
func TestTurns(t *testing.T) {
	for seed := range uint64(40) {
		l, _ := drawn(seed, 1+int(seed))
		s := laid(l)
		least := map[*group]int{}
		for i, r := range slices.Backward(l) {
			for _, at := range spots(r) {
				least[s.groups[at.tuple]] = i
			}
		}
		met := map[*group]int{}
		for _, turn := range s.turns {
			met[turn.group] = turn.first
		}
		rises := slices.IsSortedFunc(s.turns, func(a, b turn) int { return a.first - b.first })
		if !rises || len(s.turns) != len(s.groups) || !maps.Equal(met, least) {
			t.Fatalf("turns %v, wanted %v", s.turns, least)
		}
	}
}

// No more tables are asked once what was found stands ahead of all that are left, and none ahead of that is left out.
func TestAskStopsWhereNothingAheadIsLeft(t *testing.T) {
	var l []api.Rule
	for i := range 20 { // each has a tuple of its own
		r := rule.All(i+1, api.Permit)
		r.Src, _ = prefix.Of(uint32(i)<<27, 5+i)
		l = append(l, r)
	}
	l = append(l, rule.All(100, api.Log))
	e, _ := New(api.Config{Max: 64, Default: api.Deny, Tuple: 100, Binth: 1})
	if err := e.Set(l); err != api.OK {
		t.Fatal(err)
	}
	for i, r := range l[:20] {
		if v, s := e.Ask(api.Header{Src: r.Src.Addr}); v.Id != r.Id || s.Tables != i+1 || s.Rules != 1 {
			t.Errorf("the place %d: %+v, %+v", i, v, s)
		}
	}
	if v, s := e.Ask(api.Header{Src: 31 << 27}); v.Id != 100 || s.Tables != 21 || s.Rules != 1 {
		t.Errorf("the last place: %+v, %+v", v, s)
	}
}

// A rule that has several tables is found in one of them: then none of the others is asked, as nothing there stands ahead of it.
func TestAskStopsAtTheRuleItself(t *testing.T) {
	web := rule.All(1, api.Permit)
	web.Dport = api.Span{Lo: 1, Hi: 6} // stems of two lengths
	e, _ := New(api.Config{Max: 64, Default: api.Deny, Tuple: 100, Binth: 1})
	if err := e.Set([]api.Rule{web, rule.All(2, api.Log)}); err != api.OK || e.Stats().Tables != 3 {
		t.Fatalf("Set: %d, %+v", err, e.Stats())
	}
	for port, tables := range []int{3, 1, 2, 2, 2, 2, 1, 3} {
		if v, s := e.Ask(api.Header{Dport: uint16(port)}); s.Tables != tables || s.Rules != 1 || v.Id != 1+tables/3 {
			t.Errorf("the port %d: %+v, %+v", port, v, s)
		}
	}
}

// Of rules that stand under one header none but the first is held against it.
func TestAskTakesTheFirstOfAList(t *testing.T) {
	e, _ := New(api.Config{Max: 64, Default: api.Deny, Tuple: 100, Binth: 1})
	for i := range 64 {
		if err := e.Insert(i/2, rule.All(i+1, api.Permit)); err != api.OK {
			t.Fatal(err)
		}
		if v, s := e.Ask(api.Header{}); !v.Hit || s.Rules != 1 || s.Tables != 1 {
			t.Errorf("%d rules: %+v, %+v", i+1, v, s)
		}
	}
}

// Slots are those of the greatest table, whichever is met first.
func TestSlotsAreOfTheGreatestTable(t *testing.T) {
	var l []api.Rule
	for i := range 40 {
		r := rule.All(i+1, api.Permit)
		r.Src, _ = prefix.Of(uint32(i)<<24, 8)
		l = append(l, r)
	}
	for i := range 24 { // each has a tuple of its own
		r := rule.All(i+41, api.Permit)
		r.Dst, _ = prefix.Of(math.MaxUint32, i+9)
		l = append(l, r)
	}
	e, _ := New(api.Config{Max: 64, Default: api.Deny, Tuple: 100, Binth: 1})
	if err := e.Set(l); err != api.OK {
		t.Fatal(err)
	}
	want := e.tuples.groups[tuple{src: 8}].ids.Slots()
	for range 20 {
		if s := e.Stats(); s.Slots != want || s.Slots < 42 || s.Tables != 25 || s.Entries != 64 {
			t.Errorf("Stats() = %+v, wanted %d slots", s, want)
		}
	}
}

// The greatest lists have room in the slots: as many headers under one tuple as there may be.
func TestAGroupHasRoomForAll(t *testing.T) {
	g := newGroup(tuple{})
	for i := range uint32(64 * 30 * 30) {
		g.put(api.Header{Src: i}, 1)
	}
	if g.ids.Len() != 57600 || g.entries != 57600 {
		t.Errorf("%d headers, %d entries", g.ids.Len(), g.entries)
	}
}
