package study

import (
	"math"
	"slices"
	"testing"

	"quintet/api"
	"quintet/header"
	"quintet/rule"
)

// chapter is the rules of the chapter's examples.
func chapter() []api.Rule {
	a, b, c := rule.All(1, api.Permit), rule.All(2, api.Deny), rule.All(3, api.Permit)
	a.Dport, a.Proto = api.Span{Lo: 80, Hi: 81}, api.Mask{Value: 6, Care: 255}
	b.Dport = api.Span{Lo: 80, Hi: 90}
	c.Dport, c.Proto = api.Span{Lo: 85, Hi: 85}, api.Mask{Value: 17, Care: 255}
	return []api.Rule{a, b, c, rule.All(4, api.Log)}
}

// known is the cells of lists that have one.
func known(t *testing.T, l, m []api.Rule) cells {
	t.Helper()
	c, err := cellsOf(l, m)
	if err != api.OK {
		t.Fatalf("cellsOf(%v, %v): %d", l, m, err)
	}
	return c
}

// shown is a cell as walk shows it.
type shown struct {
	h    api.Header
	here pair
}

// all is what walk shows, if the same is wanted to the end.
func all(c cells, want pair) []shown {
	var list []shown
	c.walk(want, func(h api.Header, here pair) pair {
		list = append(list, shown{h, here})
		return want
	})
	return list
}

func leasts(classes []class) []uint32 {
	var list []uint32
	for _, c := range classes {
		list = append(list, c.least)
	}
	return list
}

func TestClassesOfTheChapter(t *testing.T) {
	c := known(t, chapter(), nil)
	for i, want := range [][]uint32{{0}, {0}, {0}, {0, 80, 82, 85, 86, 91}, {0, 6, 17}} {
		if got := leasts(c[i]); !slices.Equal(got, want) {
			t.Errorf("field %d: classes from %v on, wanted %v", i, got, want)
		}
	}
	var ports, protos []set
	for _, port := range c[3] {
		ports = append(ports, port.holders[0])
	}
	for _, proto := range c[4] {
		protos = append(protos, proto.holders[0])
	}
	if !slices.Equal(ports, []set{8, 11, 10, 14, 10, 8}) || !slices.Equal(protos, []set{10, 11, 14}) {
		t.Errorf("holders of ports %v, of protocols %v", ports, protos)
	}
}

func TestClassesAtTheEnds(t *testing.T) {
	low, high := rule.All(1, api.Log), rule.All(2, api.Log)
	low.Src, low.Dst = api.Prefix{Len: 32}, api.Prefix{Len: 1}
	high.Src, high.Dst = api.Prefix{Addr: math.MaxUint32, Len: 32}, api.Prefix{Addr: 1 << 31, Len: 1}
	low.Sport, low.Dport = api.Span{}, api.Span{Hi: 80}
	high.Sport, high.Dport = api.Span{Lo: math.MaxUint16, Hi: math.MaxUint16}, api.Span{Lo: 80, Hi: math.MaxUint16}
	low.Proto, high.Proto = api.Mask{Care: 255}, api.Mask{Value: 1, Care: 1}
	c := known(t, []api.Rule{low, high, rule.All(3, api.Log)}, nil)
	for i, want := range [][]uint32{{0, 1, math.MaxUint32}, {0, 1 << 31}, {0, 1, math.MaxUint16}, {0, 80, 81}, {0, 1, 2}} {
		if got := leasts(c[i]); !slices.Equal(got, want) {
			t.Errorf("field %d: classes from %v on, wanted %v", i, got, want)
		}
	}
}

// Each list's places stand in a set of their own.
func TestClassesOfTwoLists(t *testing.T) {
	l := chapter()
	c := known(t, l[:2], l[1:])
	if got := leasts(c[3]); !slices.Equal(got, []uint32{0, 80, 82, 85, 86, 91}) {
		t.Errorf("classes from %v on", got)
	}
	want := []pair{{0, 4}, {3, 5}, {2, 5}, {2, 7}, {2, 5}, {0, 4}}
	for i, port := range c[3] {
		if port.holders != want[i] {
			t.Errorf("holders from %d on: %v, wanted %v", port.least, port.holders, want[i])
		}
	}
}

func TestCellsOfErrorsAreNone(t *testing.T) {
	c, err := cellsOf([]api.Rule{{}}, nil)
	if err != api.ErrRuleId || c.count() != 0 {
		t.Errorf("cellsOf of a rule that may not be: %d cells, %d", c.count(), err)
	}
	if got := all(cells{}, pair{1, 1}); len(got) != 0 {
		t.Errorf("no cells, but %v", got)
	}
}

// A walk shows each cell once that has a rule which is wanted, by rising headers, with all rules that match there.
func TestWalk(t *testing.T) {
	l := chapter()
	c := known(t, l[:2], l)
	everything := all(c, pair{below(2), below(4)})
	if len(everything) != c.count() || c.count() != 18 {
		t.Errorf("%d of %d cells", len(everything), c.count())
	}
	for i, s := range everything {
		if i > 0 && header.Compare(everything[i-1].h, s.h) >= 0 {
			t.Errorf("%v stands behind %v", s.h, everything[i-1].h)
		}
		for place, r := range l {
			if rule.Match(r, s.h) != (s.here[1]&one(place) != 0) || place < 2 && rule.Match(r, s.h) != (s.here[0]&one(place) != 0) {
				t.Errorf("%v: %v match, but the rule %d", s.h, s.here, place)
			}
		}
	}
	for _, want := range []pair{{}, {1, 0}, {2, 0}, {0, 1}, {0, 4}, {0, 8}, {3, 0}, {1, 4}, {2, 1}} {
		var some []shown
		for _, s := range everything {
			if s.here[0]&want[0] != 0 || s.here[1]&want[1] != 0 {
				some = append(some, s)
			}
		}
		if got := all(c, want); !slices.Equal(got, some) {
			t.Errorf("wanted are %v: %v, not %v", want, got, some)
		}
	}
}

// What is not wanted any more is not shown, and where nothing is the walk ends, however deep within the loops that is found out.
func TestWalkWhereLessIsWanted(t *testing.T) {
	var l []api.Rule
	for i := range 4 {
		r := rule.All(i+1, api.Log)
		r.Src.Addr, r.Src.Len = uint32(i)<<30, 2
		if i%2 == 1 {
			r.Dst.Len, r.Sport.Lo, r.Dport.Hi, r.Proto.Care = 1, 7, 9, 1
		}
		l = append(l, r)
	}
	c := known(t, l, nil)
	idle := below(len(l))
	var first []api.Header
	c.walk(pair{idle}, func(h api.Header, here pair) pair {
		first = append(first, h)
		idle = idle.without(here[0].first())
		return pair{idle}
	})
	want := []api.Header{{}, {Src: 1 << 30, Sport: 7}, {Src: 2 << 30}, {Src: 3 << 30, Sport: 7}}
	if !slices.Equal(first, want) {
		t.Errorf("shown were %v, wanted %v", first, want)
	}
	times := 0
	c.walk(pair{below(len(l))}, func(api.Header, pair) pair { times++; return pair{} })
	if times != 1 {
		t.Errorf("shown were %d cells, wanted the first alone", times)
	}
}

func TestFind(t *testing.T) {
	c := known(t, chapter(), nil)
	h, ok := c.find(pair{below(4)}, func(here pair) bool { return here[0] == 14 })
	if h != (api.Header{Dport: 85, Proto: 17}) || !ok {
		t.Errorf("%v, %v", h, ok)
	}
	h, ok = c.find(pair{below(4)}, func(here pair) bool { return here[0] == 15 })
	if h != (api.Header{}) || ok {
		t.Errorf("%v, %v", h, ok)
	}
	h, ok = c.find(pair{}, func(pair) bool { return true })
	if h != (api.Header{}) || ok {
		t.Errorf("nothing is wanted, but %v, %v", h, ok)
	}
}

func TestSets(t *testing.T) {
	for _, n := range []int{0, 1, 2, 31, 32, 63, 64} {
		s := below(n)
		var want []int
		for i := range n {
			want = append(want, i)
		}
		if got := s.list(); !slices.Equal(got, want) {
			t.Errorf("below(%d) = %v", n, got)
		}
		for i, place := range want {
			if got := s.without(place).list(); len(got) != n-1 || slices.Contains(got, place) {
				t.Errorf("below(%d) without %d = %v", n, place, got)
			}
			if got := (s &^ below(i)).first(); got != place {
				t.Errorf("first of below(%d) from %d on = %d", n, i, got)
			}
		}
	}
	for _, c := range []struct {
		p, q pair
		want bool
	}{
		{pair{}, pair{}, false}, {pair{5, 2}, pair{2, 5}, false}, {pair{5, 2}, pair{4, 0}, true}, {pair{5, 2}, pair{0, 3}, true},
		{pair{1 << 63, 0}, pair{1 << 63, 0}, true}, {pair{1 << 63, 0}, pair{0, 1 << 63}, false}, {pair{0, 1 << 63}, pair{1, 1 << 63}, true},
	} {
		if got := c.p.meets(c.q); got != c.want {
			t.Errorf("%v meets %v: %v", c.p, c.q, got)
		}
	}
}
