package span_test

import (
	"fmt"
	"math"
	"math/big"
	"slices"
	"testing"

	"quintet/api"
	"quintet/span"
)

func of(lo, hi uint16) api.Span { return api.Span{Lo: lo, Hi: hi} }

// set is the ports that one of the spans holds, as a great number whose bit p is 1 if p is one of them. The answers are held against it: another way than the package's own.
func set(l ...api.Span) *big.Int {
	all := new(big.Int)
	for _, s := range l {
		if s.Lo > s.Hi {
			continue
		}
		ones := new(big.Int).Lsh(big.NewInt(1), uint(s.Hi)-uint(s.Lo)+1)
		ones.Sub(ones, big.NewInt(1))
		all.Or(all, ones.Lsh(ones, uint(s.Lo)))
	}
	return all
}

// told is a set's spans: its runs of ones, the lowest first, each as long as it goes on.
func told(ports *big.Int) []api.Span {
	var list []api.Span
	rest, from := new(big.Int).Set(ports), uint(0)
	for rest.Sign() != 0 {
		noughts := rest.TrailingZeroBits()
		rest.Rsh(rest, noughts)
		ones := new(big.Int).Add(rest, big.NewInt(1)).TrailingZeroBits()
		rest.Rsh(rest, ones)
		list = append(list, of(uint16(from+noughts), uint16(from+noughts+ones-1)))
		from += noughts + ones
	}
	return list
}

// without is the ports of one set that are not in another.
func without(a, b *big.Int) *big.Int { return new(big.Int).AndNot(a, b) }

func all() *big.Int { return set(of(0, math.MaxUint16)) }

// between: the spans with both ends among the ports, also those that may not be.
func between(ports ...uint16) []api.Span {
	var list []api.Span
	for _, lo := range ports {
		for _, hi := range ports {
			list = append(list, of(lo, hi))
		}
	}
	return list
}

// spans: the edges of all ports and of the numbers with a sign, a middle; so that some touch, some have one port between them, some lie within others.
func spans() []api.Span { return between(0, 1, 2, 3, 80, 32767, 32768, 65533, 65534, 65535) }

// lists: none, one, each two and three of few ports, and some longer ones that follow no plan.
func lists() [][]api.Span {
	few := between(0, 1, 2, 65534, 65535)
	list := [][]api.Span{{}}
	for _, a := range few {
		list = append(list, []api.Span{a})
		for _, b := range few {
			list = append(list, []api.Span{a, b})
			for _, c := range few {
				list = append(list, []api.Span{a, b, c})
			}
		}
	}
	x := uint32(3)
	port := func(below uint32) uint16 {
		x = x*1664525 + 1013904223
		return uint16((x >> 8) % below)
	}
	for _, below := range []uint32{8, 40, 65536} {
		for n := range 300 {
			var l []api.Span
			for range 2 + n%9 {
				lo := port(below)
				l = append(l, of(lo, lo+port(5)-1), of(port(below), lo)) // also round the end of all ports, and the wrong way
			}
			list = append(list, l)
		}
	}
	return list
}

// P3.1

func TestCheckAsksForTheEnds(t *testing.T) {
	for _, s := range spans() {
		want := api.OK
		if s.Lo > s.Hi {
			want = api.ErrSpanEnds
		}
		if err := span.Check(s); err != want {
			t.Errorf("Check(%v) = %d; want %d", s, err, want)
		}
	}
}

func TestHasThePortsFromLoToHi(t *testing.T) {
	for _, s := range spans() {
		ports := set(s)
		for _, port := range []uint16{0, 1, 2, 3, 4, 79, 80, 81, 32766, 32767, 32768, 32769, 65532, 65533, 65534, 65535} {
			if got, want := span.Has(s, port), ports.Bit(int(port)) == 1; got != want {
				t.Errorf("Has(%v, %d) = %t", s, port, got)
			}
		}
	}
}

func TestCountIsHowManyItHas(t *testing.T) {
	for _, s := range spans() {
		want := 0
		for port := range 65536 {
			if span.Has(s, uint16(port)) {
				want++
			}
		}
		if got := span.Count(s); got != want {
			t.Errorf("Count(%v) = %d, but it has %d", s, got, want)
		}
	}
}

func TestCountAtTheEnds(t *testing.T) {
	for _, x := range []struct {
		s    api.Span
		want int
	}{
		{of(0, 65535), 65536}, {of(0, 65534), 65535}, {of(1, 65535), 65535},
		{of(0, 0), 1}, {of(80, 80), 1}, {of(65535, 65535), 1}, {of(65534, 65535), 2},
		{of(1, 0), 0}, {of(65535, 0), 0}, {of(65535, 65534), 0}, {of(32768, 32767), 0},
	} {
		if got := span.Count(x.s); got != x.want {
			t.Errorf("Count(%v) = %d; want %d", x.s, got, x.want)
		}
	}
}

// P3.2

func TestWithinIfEachPortIsHeld(t *testing.T) {
	for _, a := range spans() {
		for _, b := range spans() {
			want := a.Lo <= a.Hi && b.Lo <= b.Hi && without(set(a), set(b)).Sign() == 0
			if got := span.Within(a, b); got != want {
				t.Errorf("Within(%v, %v) = %t", a, b, got)
			}
		}
	}
}

func TestWithinNothingThatMayNotBe(t *testing.T) {
	for _, wrong := range []api.Span{of(1, 0), of(2, 1), of(9, 3), of(65535, 0), of(65535, 65534)} {
		for _, s := range append(spans(), wrong) {
			if span.Within(wrong, s) || span.Within(s, wrong) {
				t.Errorf("%v and %v: one lies within the other", wrong, s)
			}
		}
	}
}

func TestMeetIsWhatBothHold(t *testing.T) {
	for _, a := range spans() {
		for _, b := range spans() {
			var want api.Span
			both := told(new(big.Int).And(set(a), set(b)))
			if len(both) > 0 {
				want = both[0]
			}
			if got, ok := span.Meet(a, b); got != want || ok != (len(both) > 0) {
				t.Errorf("Meet(%v, %v) = %v, %t; want %v", a, b, got, ok, both)
			}
		}
	}
}

// What both hold may be the port 0 alone, which looks like nothing but for the true.
func TestMeetAtTheFirstAndTheLastPort(t *testing.T) {
	for _, x := range []struct{ a, b, want api.Span }{
		{of(0, 0), of(0, 9), of(0, 0)},
		{of(0, 65535), of(0, 0), of(0, 0)},
		{of(9, 65535), of(65535, 65535), of(65535, 65535)},
		{of(4, 9), of(9, 12), of(9, 9)},
		{of(4, 9), of(4, 9), of(4, 9)},
	} {
		if got, ok := span.Meet(x.a, x.b); got != x.want || !ok {
			t.Errorf("Meet(%v, %v) = %v, %t; want %v, true", x.a, x.b, got, ok, x.want)
		}
	}
}

// P3.3

func TestLessIsWhatTheOtherDoesNotHold(t *testing.T) {
	for _, a := range spans() {
		for _, b := range spans() {
			want := told(without(set(a), set(b)))
			if got := span.Less(a, b); !slices.Equal(got, want) {
				t.Errorf("Less(%v, %v) = %v; want %v", a, b, got, want)
			}
		}
	}
}

func TestLessOfWhatMayNotBe(t *testing.T) {
	for _, wrong := range []api.Span{of(1, 0), of(2, 1), of(9, 3), of(65535, 0), of(65535, 65534)} {
		for _, s := range []api.Span{of(0, 65535), of(0, 0), of(65535, 65535), of(2, 5)} {
			if got := span.Less(wrong, s); len(got) != 0 {
				t.Errorf("Less(%v, %v) = %v; want nothing", wrong, s, got)
			}
			if got := span.Less(s, wrong); !slices.Equal(got, []api.Span{s}) {
				t.Errorf("Less(%v, %v) = %v; want %v", s, wrong, got, s)
			}
		}
		if got := span.Less(wrong, wrong); len(got) != 0 {
			t.Errorf("Less(%v, %v) = %v; want nothing", wrong, wrong, got)
		}
	}
}

func TestLessAnswersNewMemory(t *testing.T) {
	for _, b := range []api.Span{of(3, 4), of(20, 30), of(9, 3)} {
		first := span.Less(of(0, 9), b)
		want := slices.Clone(first)
		clear(first[:cap(first)])
		if again := span.Less(of(0, 9), b); !slices.Equal(again, want) {
			t.Errorf("Less(0-9, %v) = %v, after its first answer was written into", b, again)
		}
	}
}

// P3.4

func TestUnionIsTheFewestRising(t *testing.T) {
	for _, l := range lists() {
		want := told(set(l...))
		if got := span.Union(l...); !slices.Equal(got, want) {
			t.Errorf("Union(%v) = %v; want %v", l, got, want)
		}
	}
}

func TestGapsAreTheFewestRising(t *testing.T) {
	whole := all()
	for _, l := range lists() {
		want := told(without(whole, set(l...)))
		if got := span.Gaps(l...); !slices.Equal(got, want) {
			t.Errorf("Gaps(%v) = %v; want %v", l, got, want)
		}
	}
}

func TestUnionAndGapsAtTheEdges(t *testing.T) {
	for _, x := range []struct {
		name              string
		l, joined, beyond []api.Span
	}{
		{"that touch", []api.Span{of(10, 19), of(20, 29)}, []api.Span{of(10, 29)}, []api.Span{of(0, 9), of(30, 65535)}},
		{"with one port between", []api.Span{of(10, 19), of(21, 29)}, []api.Span{of(10, 19), of(21, 29)}, []api.Span{of(0, 9), of(20, 20), of(30, 65535)}},
		{"with the port between", []api.Span{of(10, 19), of(21, 29), of(20, 20)}, []api.Span{of(10, 29)}, []api.Span{of(0, 9), of(30, 65535)}},
		{"one within the other", []api.Span{of(10, 29), of(15, 19)}, []api.Span{of(10, 29)}, []api.Span{of(0, 9), of(30, 65535)}},
		{"one within, and one beside it", []api.Span{of(10, 29), of(15, 19), of(25, 30)}, []api.Span{of(10, 30)}, []api.Span{of(0, 9), of(31, 65535)}},
		{"the same twice", []api.Span{of(10, 29), of(10, 29)}, []api.Span{of(10, 29)}, []api.Span{of(0, 9), of(30, 65535)}},
		{"one port", []api.Span{of(80, 80)}, []api.Span{of(80, 80)}, []api.Span{of(0, 79), of(81, 65535)}},
		{"the first port", []api.Span{of(0, 0)}, []api.Span{of(0, 0)}, []api.Span{of(1, 65535)}},
		{"the last port", []api.Span{of(65535, 65535)}, []api.Span{of(65535, 65535)}, []api.Span{of(0, 65534)}},
		{"the last port and the first", []api.Span{of(65535, 65535), of(0, 0)}, []api.Span{of(0, 0), of(65535, 65535)}, []api.Span{of(1, 65534)}},
		{"behind all", []api.Span{of(0, 65535), of(65535, 65535)}, []api.Span{of(0, 65535)}, nil},
		{"all", []api.Span{of(0, 65535)}, []api.Span{of(0, 65535)}, nil},
		{"all in two", []api.Span{of(32768, 65535), of(0, 32767)}, []api.Span{of(0, 65535)}, nil},
		{"the wrong way", []api.Span{of(65535, 0)}, nil, []api.Span{of(0, 65535)}},
		{"the wrong way first", []api.Span{of(9, 3), of(5, 6)}, []api.Span{of(5, 6)}, []api.Span{of(0, 4), of(7, 65535)}},
		{"the wrong way between", []api.Span{of(5, 6), of(7, 4), of(8, 9)}, []api.Span{of(5, 6), of(8, 9)}, []api.Span{of(0, 4), of(7, 7), of(10, 65535)}},
		{"the wrong way last", []api.Span{of(5, 9), of(9, 3), of(11, 10)}, []api.Span{of(5, 9)}, []api.Span{of(0, 4), of(10, 65535)}},
		{"none at all", nil, nil, []api.Span{of(0, 65535)}},
	} {
		if got := span.Union(x.l...); !slices.Equal(got, x.joined) {
			t.Errorf("%s: Union(%v) = %v; want %v", x.name, x.l, got, x.joined)
		}
		if got := span.Gaps(x.l...); !slices.Equal(got, x.beyond) {
			t.Errorf("%s: Gaps(%v) = %v; want %v", x.name, x.l, got, x.beyond)
		}
	}
}

func TestUnionAndGapsOfNothingHandedIn(t *testing.T) {
	if got := span.Union(); len(got) != 0 {
		t.Errorf("Union() = %v; want nothing", got)
	}
	if got := span.Gaps(); !slices.Equal(got, []api.Span{of(0, 65535)}) {
		t.Errorf("Gaps() = %v; want 0-65535", got)
	}
}

// Each second port, the highest first and each one twice: as many spans as a set can have.
func TestUnionAndGapsOfManySpans(t *testing.T) {
	var l, even, odd []api.Span
	for port := range 32768 {
		p := uint16(65534 - 2*port)
		l = append(l, of(p, p), of(p, p))
		even = append(even, of(65534-p, 65534-p))
		odd = append(odd, of(65535-p, 65535-p))
	}
	if got := span.Union(l...); !slices.Equal(got, even) {
		t.Errorf("Union of each second port: %d spans; want %d", len(got), len(even))
	}
	if got := span.Gaps(l...); !slices.Equal(got, odd) {
		t.Errorf("Gaps of each second port: %d spans; want %d", len(got), len(odd))
	}
	whole := []api.Span{of(0, 65535)}
	if got := span.Union(append(l, odd...)...); !slices.Equal(got, whole) {
		t.Errorf("Union of each port: %d spans; want one", len(got))
	}
	if got := span.Gaps(append(l, odd...)...); len(got) != 0 {
		t.Errorf("Gaps of each port: %d spans; want none", len(got))
	}
}

// calls are those to which a list is handed in.
func calls() map[string]func(...api.Span) []api.Span {
	return map[string]func(...api.Span) []api.Span{"Union": span.Union, "Gaps": span.Gaps}
}

// The list, and its spare room too: a call that appends to its list would write there.
func TestWhatIsHandedInStaysAsItWas(t *testing.T) {
	for name, call := range calls() {
		room := []api.Span{of(11, 12), of(5, 9), of(9, 3), of(0, 4), of(5, 9), of(77, 78), of(70, 71), of(1, 0)}
		was := slices.Clone(room)
		call(room[:5]...)
		if !slices.Equal(room, was) {
			t.Errorf("%s left %v; it was handed in as %v", name, room, was)
		}
	}
}

func TestListsShareNoMemory(t *testing.T) {
	for name, call := range calls() {
		for _, l := range [][]api.Span{{of(5, 9)}, {of(0, 4), of(6, 9)}, {of(11, 12), of(5, 9), of(0, 4)}, {}} {
			was := slices.Clone(l)
			first := call(l...)
			want := slices.Clone(first)
			for i := range l {
				l[i] = of(7, 7)
			}
			if !slices.Equal(first, want) {
				t.Errorf("%s(%v) turned to %v when the list was written into", name, was, first)
			}
			copy(l, was)
			clear(first[:cap(first)])
			if again := call(l...); !slices.Equal(l, was) || !slices.Equal(again, want) {
				t.Errorf("%s(%v) = %v, of %v, after its first answer was written into", name, was, again, l)
			}
		}
	}
}

// P3.5

func TestCompareIsByLoThenHi(t *testing.T) {
	// between gives them in the order that Compare asks for, also those that may not be.
	ordered := between(0, 1, 2, 255, 256, 32767, 32768, 65534, 65535)
	for i, a := range ordered {
		for j, b := range ordered {
			want := 0
			if i < j {
				want = -1
			} else if i > j {
				want = 1
			}
			if got := span.Compare(a, b); got != want {
				t.Errorf("Compare(%v, %v) = %d; want %d", a, b, got, want)
			}
		}
	}
}

// P3.6

func TestLessAndMeetHaveAsManyAsTheFirst(t *testing.T) {
	for _, a := range spans() {
		for _, b := range spans() {
			n := 0
			if both, ok := span.Meet(a, b); ok {
				n = span.Count(both)
			}
			for _, s := range span.Less(a, b) {
				n += span.Count(s)
			}
			if n != span.Count(a) {
				t.Errorf("Less and Meet of %v and %v have %d ports; the first one has %d", a, b, n, span.Count(a))
			}
		}
	}
}

func TestGapsOfGapsAreTheUnion(t *testing.T) {
	for _, l := range lists() {
		joined := span.Union(l...)
		if got := span.Gaps(span.Gaps(l...)...); !slices.Equal(got, joined) {
			t.Errorf("Gaps of Gaps(%v) = %v, but Union = %v", l, got, joined)
		}
	}
}

// The chapter's table of examples.

// answer is an answer's texts: the calls answer of several types.
func answer(values ...any) string { return fmt.Sprint(values...) }

func TestExamples(t *testing.T) {
	meet := func(a, b api.Span) string { s, ok := span.Meet(a, b); return answer(s, ok) }
	list := func(l ...api.Span) string { return answer(l) }
	for _, x := range []struct{ call, got, want string }{
		{"Check(1-1)", answer(span.Check(of(1, 1))), answer(api.OK)},
		{"Check(2-1)", answer(span.Check(of(2, 1))), answer(api.ErrSpanEnds)},
		{"Has(2-1, 1)", answer(span.Has(of(2, 1), 1)), answer(false)},
		{"Count(0-65535)", answer(span.Count(of(0, 65535))), answer(65536)},
		{"Count(2-1)", answer(span.Count(of(2, 1))), answer(0)},
		{"Within(5-6, 0-9)", answer(span.Within(of(5, 6), of(0, 9))), answer(true)},
		{"Within(5-6, 6-9)", answer(span.Within(of(5, 6), of(6, 9))), answer(false)},
		{"Within(2-1, 0-9)", answer(span.Within(of(2, 1), of(0, 9))), answer(false)},
		{"Meet(0-9, 5-20)", meet(of(0, 9), of(5, 20)), answer(of(5, 9), true)},
		{"Meet(0-4, 5-9)", meet(of(0, 4), of(5, 9)), answer(of(0, 0), false)},
		{"Less(0-9, 3-4)", list(span.Less(of(0, 9), of(3, 4))...), list(of(0, 2), of(5, 9))},
		{"Less(0-9, 0-20)", list(span.Less(of(0, 9), of(0, 20))...), list()},
		{"Less(0-9, 9-3)", list(span.Less(of(0, 9), of(9, 3))...), list(of(0, 9))},
		{"Union(5-9, 0-4, 11-12)", list(span.Union(of(5, 9), of(0, 4), of(11, 12))...), list(of(0, 9), of(11, 12))},
		{"Gaps(5-9, 11-65535)", list(span.Gaps(of(5, 9), of(11, 65535))...), list(of(0, 4), of(10, 10))},
		{"Union()", list(span.Union()...), list()},
		{"Gaps()", list(span.Gaps()...), list(of(0, 65535))},
		{"Compare(1-2, 1-3)", answer(span.Compare(of(1, 2), of(1, 3))), answer(-1)},
		{"Compare(2-0, 1-9)", answer(span.Compare(of(2, 0), of(1, 9))), answer(1)},
		{"Compare(4-4, 4-4)", answer(span.Compare(of(4, 4), of(4, 4))), answer(0)},
	} {
		if x.got != x.want {
			t.Errorf("%s = %s; want %s", x.call, x.got, x.want)
		}
	}
}
