package mask_test

import (
	"fmt"
	"iter"
	"math/bits"
	"slices"
	"strings"
	"testing"

	"quintet/api"
	"quintet/mask"
)

func of(value, care uint8) api.Mask { return api.Mask{Value: value, Care: care} }

// pattern is a mask as eight signs, the highest bit first: 0 and 1 where it cares, * where it does not, ! where it does not and yet has a 1. The answers are held against patterns: another way than the package's own.
func pattern(m api.Mask) string {
	value, care := fmt.Sprintf("%08b", m.Value), fmt.Sprintf("%08b", m.Care)
	signs := make([]byte, 8)
	for i := range signs {
		switch {
		case care[i] == '1':
			signs[i] = value[i]
		case value[i] == '1':
			signs[i] = '!'
		default:
			signs[i] = '*'
		}
	}
	return string(signs)
}

// read is the mask of a pattern.
func read(signs string) api.Mask {
	var m api.Mask
	for _, sign := range signs {
		m.Value, m.Care = m.Value<<1, m.Care<<1
		if sign == '1' || sign == '!' {
			m.Value++
		}
		if sign == '0' || sign == '1' {
			m.Care++
		}
	}
	return m
}

func wrong(m api.Mask) bool { return strings.Contains(pattern(m), "!") }

// set is the protocols that a pattern holds.
type set [256]bool

// held goes through a mask's pattern sign by sign, and doubles what is held at each star.
func held(m api.Mask) set {
	found := []int{0}
	for _, sign := range pattern(m) {
		var next []int
		for _, p := range found {
			if sign == '0' || sign == '*' {
				next = append(next, 2*p)
			}
			if sign == '1' || sign == '*' {
				next = append(next, 2*p+1)
			}
		}
		found = next
	}
	var s set
	for _, p := range found {
		s[p] = true
	}
	return s
}

func (s set) list() []uint8 {
	var l []uint8
	for p, in := range s {
		if in {
			l = append(l, uint8(p))
		}
	}
	return l
}

// both is what two sets have in common.
func both(a, b set) set {
	for p := range a {
		a[p] = a[p] && b[p]
	}
	return a
}

// every: all the masks that there are, also those that may not be.
func every() iter.Seq[api.Mask] {
	return func(yield func(api.Mask) bool) {
		for n := range 65536 {
			if !yield(of(uint8(n), uint8(n>>8))) {
				return
			}
		}
	}
}

// some: masks for pairs: each pattern of four bits, the highest and the lowest among them, beside stars; some that care for the other bits, too; some that may not be.
func some() []api.Mask {
	list := []api.Mask{of(6, 0xff), of(17, 0xff), of(7, 0xff), of(0, 0xff), of(0xff, 0xff), of(4, 0xfc), of(0x0c, 0x0c), of(0x41, 0xc1), of(0xaa, 0xaa), of(0x55, 0x55), of(0, 0x7f), of(0xfe, 0xfe)}
	signs := "01*"
	for n := range 81 {
		p := []byte("********")
		for _, bit := range []int{0, 2, 3, 7} {
			p[bit] = signs[n%3]
			n /= 3
		}
		list = append(list, read(string(p)))
	}
	return append(list, wrongs()...)
}

// wrongs: masks that may not be: one bit too many, all of them, one beside bits that are cared for; among them some with which Value and Care look alike to another mask.
func wrongs() []api.Mask {
	return []api.Mask{of(1, 0), of(0x80, 0), of(0xff, 0), of(1, 0xfe), of(0x80, 0x7f), of(0xff, 0xfe), of(6, 0xfb), of(0x10, 0x0f), of(7, 0xfc)}
}

// name is a pair, for what a test tells.
func name(call string, a, b api.Mask) string {
	return call + "(" + pattern(a) + ", " + pattern(b) + ")"
}

// pairs calls a test with each two masks of some, and what these hold.
func pairs(test func(a, b api.Mask, holdsA, holdsB set)) {
	list := some()
	sets := make([]set, len(list))
	for i, m := range list {
		sets[i] = held(m)
	}
	for i, a := range list {
		for j, b := range list {
			test(a, b, sets[i], sets[j])
		}
	}
}

// P4.1

func TestCheckAsksForBitsThatAreCaredFor(t *testing.T) {
	for m := range every() {
		want := api.OK
		if wrong(m) {
			want = api.ErrMaskBits
		}
		if err := mask.Check(m); err != want {
			t.Fatalf("Check(%s) = %d; want %d", pattern(m), err, want)
		}
	}
}

func TestHasAndCountAndAllOfEveryMask(t *testing.T) {
	for m := range every() {
		s := held(m)
		want := s.list()
		for p, in := range s {
			if mask.Has(m, uint8(p)) != in {
				t.Fatalf("Has(%s, %08b) = %t", pattern(m), p, !in)
			}
		}
		if got := mask.Count(m); got != len(want) {
			t.Fatalf("Count(%s) = %d; want %d", pattern(m), got, len(want))
		}
		if got := slices.Collect(mask.All(m)); !slices.Equal(got, want) {
			t.Fatalf("All(%s) = %d; want %d", pattern(m), got, want)
		}
	}
}

func TestCountAtTheEdges(t *testing.T) {
	for _, x := range []struct {
		m    api.Mask
		want int
	}{
		{of(0, 0), 256}, {of(0, 0xff), 1}, {of(0xff, 0xff), 1}, {of(0, 1), 128}, {of(0x80, 0x80), 128}, {of(0, 0xfe), 2},
		{of(1, 0), 0}, {of(0x80, 0), 0}, {of(0xff, 0), 0}, {of(0xff, 0x7f), 0},
	} {
		if got := mask.Count(x.m); got != x.want {
			t.Errorf("Count(%s) = %d; want %d", pattern(x.m), got, x.want)
		}
	}
}

func TestWhatMayNotBeHoldsNone(t *testing.T) {
	for _, m := range wrongs() {
		for p := range 256 {
			if mask.Has(m, uint8(p)) {
				t.Errorf("Has(%s, %d)", pattern(m), p)
			}
		}
		for p := range mask.All(m) {
			t.Errorf("All(%s) gives %d", pattern(m), p)
		}
	}
}

// P4.2

func TestAllIsNeverNil(t *testing.T) {
	for _, m := range some() {
		if mask.All(m) == nil {
			t.Errorf("All(%s) is nil", pattern(m))
		}
	}
}

func TestAllMayBeRangedOverTwice(t *testing.T) {
	for _, m := range some() {
		all := mask.All(m)
		first := slices.Collect(all)
		if again := slices.Collect(all); !slices.Equal(again, first) || !slices.Equal(again, held(m).list()) {
			t.Errorf("All(%s) gives %d, then %d", pattern(m), first, again)
		}
	}
}

// Left at each of its protocols, it gives none behind that one, and begins anew.
func TestAllMayBeLeftEarly(t *testing.T) {
	for _, m := range []api.Mask{of(0, 0), of(0x10, 0xfd), of(6, 0xff), of(0xff, 0xff), of(0x21, 0x21)} {
		all, want := mask.All(m), held(m).list()
		for n := range want {
			var got []uint8
			all(func(p uint8) bool {
				got = append(got, p)
				return len(got) <= n
			})
			if !slices.Equal(got, want[:n+1]) {
				t.Errorf("All(%s), left at the %d. one: %d", pattern(m), n+1, got)
			}
		}
		if got := slices.Collect(all); !slices.Equal(got, want) {
			t.Errorf("All(%s), after it was left: %d", pattern(m), got)
		}
	}
}

func TestAllMayBeRangedOverWithinItself(t *testing.T) {
	for _, m := range []api.Mask{of(0, 0xe7), of(0x10, 0xfd), of(6, 0xff), of(0x88, 0x99)} {
		all, want := mask.All(m), held(m).list()
		var outer []uint8
		for p := range all {
			outer = append(outer, p)
			if inner := slices.Collect(all); !slices.Equal(inner, want) {
				t.Errorf("All(%s) within itself, at %d: %d", pattern(m), p, inner)
			}
			for range all {
				break
			}
		}
		if !slices.Equal(outer, want) {
			t.Errorf("All(%s) around itself: %d", pattern(m), outer)
		}
	}
}

// P4.3

func TestWithinIfEachProtocolIsHeld(t *testing.T) {
	pairs(func(a, b api.Mask, holdsA, holdsB set) {
		want := !wrong(a) && !wrong(b) && both(holdsA, holdsB) == holdsA
		if got := mask.Within(a, b); got != want {
			t.Errorf("%s = %t", name("Within", a, b), got)
		}
	})
}

func TestMeetIsWhatBothHold(t *testing.T) {
	pairs(func(a, b api.Mask, holdsA, holdsB set) {
		common := both(holdsA, holdsB)
		got, ok := mask.Meet(a, b)
		if ok != (common != set{}) {
			t.Errorf("%s = %s, %t", name("Meet", a, b), pattern(got), ok)
		}
		if ok && held(got) != common || !ok && got != of(0, 0) {
			t.Errorf("%s = %s, %t; want %d", name("Meet", a, b), pattern(got), ok, common.list())
		}
	})
}

// What both hold may be all there is, which looks like nothing but for the true.
func TestMeetAtTheEdges(t *testing.T) {
	for _, x := range []struct {
		a, b, want api.Mask
		ok         bool
	}{
		{of(0, 0), of(0, 0), of(0, 0), true},
		{of(0, 0), of(6, 0xff), of(6, 0xff), true},
		{of(0, 0xff), of(0, 0), of(0, 0xff), true},
		{of(4, 0xfc), of(4, 0xfc), of(4, 0xfc), true},
		{of(0xff, 0xff), of(0xff, 0xff), of(0xff, 0xff), true},
		{of(0x80, 0x80), of(1, 1), of(0x81, 0x81), true},
		{of(0x80, 0x80), of(0, 0x80), of(0, 0), false},
		{of(1, 1), of(0, 1), of(0, 0), false},
		{of(6, 0xff), of(7, 0xff), of(0, 0), false},
	} {
		if got, ok := mask.Meet(x.a, x.b); got != x.want || ok != x.ok {
			t.Errorf("%s = %s, %t; want %s, %t", name("Meet", x.a, x.b), pattern(got), ok, pattern(x.want), x.ok)
		}
	}
}

func TestNothingLiesWithinOrMeetsWhatMayNotBe(t *testing.T) {
	for _, m := range wrongs() {
		for _, other := range some() {
			if mask.Within(m, other) || mask.Within(other, m) {
				t.Errorf("%s and %s: one lies within the other", pattern(m), pattern(other))
			}
			for _, pair := range [][2]api.Mask{{m, other}, {other, m}} {
				if got, ok := mask.Meet(pair[0], pair[1]); ok || got != of(0, 0) {
					t.Errorf("%s = %s, %t", name("Meet", pair[0], pair[1]), pattern(got), ok)
				}
			}
		}
	}
}

// P4.4

// pieces are what the promise asks Less for, sign by sign.
func pieces(a, b api.Mask) []api.Mask {
	if wrong(a) || wrong(b) {
		return nil
	}
	if both(held(a), held(b)) == (set{}) {
		return []api.Mask{a}
	}
	var list []api.Mask
	rest, cut := []byte(pattern(a)), pattern(b)
	for i := range rest {
		if rest[i] != '*' || cut[i] == '*' {
			continue
		}
		rest[i] = '0' + '1' - cut[i]
		list = append(list, read(string(rest)))
		rest[i] = cut[i]
	}
	return list
}

func TestLessIsTheMasksInTheirOrder(t *testing.T) {
	pairs(func(a, b api.Mask, _, _ set) {
		if got, want := mask.Less(a, b), pieces(a, b); !slices.Equal(got, want) {
			t.Errorf("%s = %x; want %x", name("Less", a, b), got, want)
		}
	})
}

func TestLessAtTheEdges(t *testing.T) {
	for _, x := range []struct {
		name string
		a, b api.Mask
		want []api.Mask
	}{
		{"all less the last one", of(0, 0), of(0xff, 0xff), []api.Mask{of(0, 0x80), of(0x80, 0xc0), of(0xc0, 0xe0), of(0xe0, 0xf0), of(0xf0, 0xf8), of(0xf8, 0xfc), of(0xfc, 0xfe), of(0xfe, 0xff)}},
		{"all less all", of(0, 0), of(0, 0), nil},
		{"the same twice", of(6, 0xff), of(6, 0xff), nil},
		{"one within the other", of(0x42, 0xf2), of(0x40, 0xc0), nil},
		{"the other within it", of(0x40, 0xc0), of(0x42, 0xf2), []api.Mask{of(0x60, 0xe0), of(0x50, 0xf0), of(0x40, 0xf2)}},
		{"neither in the other", of(0x0c, 0x0c), of(0x41, 0xc1), []api.Mask{of(0x8c, 0x8c), of(0x0c, 0xcc), of(0x4c, 0xcd)}},
		{"the highest bit alone", of(0, 0), of(0, 0x80), []api.Mask{of(0x80, 0x80)}},
		{"the lowest bit alone", of(0, 0), of(1, 1), []api.Mask{of(0, 1)}},
		{"nothing in common, and bits to cut at", of(0x80, 0x80), of(0x0f, 0x8f), []api.Mask{of(0x80, 0x80)}},
	} {
		if got := mask.Less(x.a, x.b); !slices.Equal(got, x.want) {
			t.Errorf("%s: %s = %x; want %x", x.name, name("Less", x.a, x.b), got, x.want)
		}
	}
}

func TestLessOfWhatMayNotBeIsNothing(t *testing.T) {
	for _, m := range wrongs() {
		for _, other := range some() {
			if got := mask.Less(m, other); len(got) != 0 {
				t.Errorf("%s = %x; want nothing", name("Less", m, other), got)
			}
			if got := mask.Less(other, m); len(got) != 0 {
				t.Errorf("%s = %x; want nothing", name("Less", other, m), got)
			}
		}
	}
}

func TestLessAnswersNewMemory(t *testing.T) {
	for _, b := range []api.Mask{of(6, 0xff), of(0x80, 0x80), of(0, 0x0f)} {
		a := of(4, 0x0c)
		first := mask.Less(a, b)
		want := slices.Clone(first)
		clear(first[:cap(first)])
		if again := mask.Less(a, b); !slices.Equal(again, want) {
			t.Errorf("%s = %x, after its first answer was written into; ahead of that %x", name("Less", a, b), again, want)
		}
	}
}

// P4.5

// around is the pattern of what all protocols have alike.
func around(l []uint8) api.Mask {
	signs := []byte(fmt.Sprintf("%08b", l[0]))
	for _, p := range l {
		for i, sign := range fmt.Sprintf("%08b", p) {
			if signs[i] != byte(sign) {
				signs[i] = '*'
			}
		}
	}
	return read(string(signs))
}

// lists: each protocol alone, each two, some threes with one twice, and longer ones that follow no plan.
func lists() [][]uint8 {
	var list [][]uint8
	for p := range 256 {
		list = append(list, []uint8{uint8(p)})
		for q := range 256 {
			list = append(list, []uint8{uint8(p), uint8(q)})
		}
		list = append(list, []uint8{uint8(p), 6, 6}, []uint8{6, uint8(p), 17}, []uint8{255, 255, uint8(p)})
	}
	x := uint32(4)
	for n := range 500 {
		var l []uint8
		base := uint8(n)
		for range 2 + n%9 {
			x = x*1664525 + 1013904223
			l = append(l, base^uint8(x>>8)&uint8(x>>16)&uint8(x>>24))
		}
		list = append(list, l)
	}
	return list
}

func TestHullIsWhatAllHaveAlike(t *testing.T) {
	for _, l := range lists() {
		want := around(l)
		if got, err := mask.Hull(l...); got != want || err != api.OK {
			t.Fatalf("Hull(%08b) = %s, %d; want %s", l, pattern(got), err, pattern(want))
		}
	}
}

func TestHullAtTheEdges(t *testing.T) {
	var all []uint8
	for p := range 256 {
		all = append(all, uint8(255-p))
	}
	for _, x := range []struct {
		l    []uint8
		want api.Mask
	}{
		{[]uint8{0}, of(0, 0xff)},
		{[]uint8{255}, of(255, 0xff)},
		{[]uint8{0, 0, 0}, of(0, 0xff)},
		{[]uint8{0, 255}, of(0, 0)},
		{[]uint8{255, 0}, of(0, 0)},
		{[]uint8{0x7f, 0xff}, of(0x7f, 0x7f)},
		{[]uint8{0xfe, 0xff}, of(0xfe, 0xfe)},
		{[]uint8{4, 5, 4, 6}, of(4, 0xfc)},
		{all, of(0, 0)},
	} {
		if got, err := mask.Hull(x.l...); got != x.want || err != api.OK {
			t.Errorf("Hull(%d) = %s, %d; want %s", x.l, pattern(got), err, pattern(x.want))
		}
	}
}

func TestHullOfNoneIsAnError(t *testing.T) {
	for _, l := range [][]uint8{nil, {}, make([]uint8, 0, 4)} {
		if got, err := mask.Hull(l...); got != of(0, 0) || err != api.ErrArg {
			t.Errorf("Hull of none = %s, %d; want noughts, ErrArg", pattern(got), err)
		}
	}
	if got, err := mask.Hull(); got != of(0, 0) || err != api.ErrArg {
		t.Errorf("Hull() = %s, %d; want noughts, ErrArg", pattern(got), err)
	}
}

func TestHullLeavesItsListAndTheSpareRoom(t *testing.T) {
	for _, l := range lists() {
		room := append(slices.Clone(l), 1, 2, 3)
		was := slices.Clone(room)
		mask.Hull(room[:len(l)]...)
		if !slices.Equal(room, was) {
			t.Fatalf("Hull(%d) turned its list and the room behind it to %d", l, room)
		}
	}
}

// P4.6

func TestEachProtocolIsInOnePieceOrTheOther(t *testing.T) {
	pairs(func(a, b api.Mask, holdsA, holdsB set) {
		if wrong(a) || wrong(b) {
			return
		}
		left := mask.Less(a, b)
		for p := range 256 {
			n := 0
			if mask.Has(b, uint8(p)) && mask.Has(a, uint8(p)) {
				n++
			}
			for _, piece := range left {
				if mask.Has(piece, uint8(p)) {
					n++
				}
			}
			if (n == 1) != mask.Has(a, uint8(p)) || n > 1 {
				t.Fatalf("%s = %x: %d is held %d times", name("Less", a, b), left, p, n)
			}
		}
	})
}

func TestEachPieceMayBeAndLiesWithinTheFirst(t *testing.T) {
	pairs(func(a, b api.Mask, _, _ set) {
		for _, piece := range mask.Less(a, b) {
			if mask.Check(piece) != api.OK || !mask.Within(piece, a) {
				t.Errorf("%s has the piece %s", name("Less", a, b), pattern(piece))
			}
			if got, ok := mask.Meet(piece, b); ok {
				t.Errorf("%s has the piece %s, which holds %s", name("Less", a, b), pattern(piece), pattern(got))
			}
		}
	})
}

func TestWithinJustIfMeetIsTheFirst(t *testing.T) {
	pairs(func(a, b api.Mask, _, _ set) {
		got, ok := mask.Meet(a, b)
		if within := mask.Within(a, b); within != (ok && got == a) {
			t.Errorf("%s = %t, but Meet is %s, %t", name("Within", a, b), within, pattern(got), ok)
		}
	})
}

func TestHullHoldsAllAndLiesWithinEachMaskThatDoes(t *testing.T) {
	for i, l := range lists() {
		hull, _ := mask.Hull(l...)
		for _, p := range l {
			if !mask.Has(hull, p) {
				t.Fatalf("Hull(%d) = %s does not hold %d", l, pattern(hull), p)
			}
		}
		if i%97 != 0 {
			continue
		}
		for m := range every() {
			lacks := slices.ContainsFunc(l, func(p uint8) bool { return !mask.Has(m, p) })
			if !lacks && !mask.Within(hull, m) {
				t.Fatalf("Hull(%d) = %s does not lie within %s", l, pattern(hull), pattern(m))
			}
		}
	}
}

func TestHullOfAllIsTheMask(t *testing.T) {
	for m := range every() {
		if wrong(m) {
			continue
		}
		if got, err := mask.Hull(slices.Collect(mask.All(m))...); got != m || err != api.OK {
			t.Fatalf("Hull of All(%s) = %s, %d", pattern(m), pattern(got), err)
		}
	}
}

func TestCountIsAPowerOfTwo(t *testing.T) {
	for m := range every() {
		if n := mask.Count(m); mask.Check(m) == api.OK && bits.OnesCount(uint(n)) != 1 {
			t.Fatalf("Count(%s) = %d", pattern(m), n)
		}
	}
}

// The chapter's table of examples.

// answer is an answer's texts, numbers hexadecimal as they stand in the table.
func answer(values ...any) string { return fmt.Sprintf("%x", values) }

func TestExamples(t *testing.T) {
	meet := func(a, b api.Mask) string { m, ok := mask.Meet(a, b); return answer(m, ok) }
	hull := func(l ...uint8) string { m, err := mask.Hull(l...); return answer(m, int(err)) }
	list := func(l ...api.Mask) string { return answer(l) }
	for _, x := range []struct{ call, got, want string }{
		{"Check(06 ff)", answer(int(mask.Check(of(0x06, 0xff)))), answer(int(api.OK))},
		{"Check(00 00)", answer(int(mask.Check(of(0x00, 0x00)))), answer(int(api.OK))},
		{"Check(01 fe)", answer(int(mask.Check(of(0x01, 0xfe)))), answer(int(api.ErrMaskBits))},
		{"Count(06 ff)", answer(mask.Count(of(0x06, 0xff))), answer(1)},
		{"Count(00 00)", answer(mask.Count(of(0x00, 0x00))), answer(256)},
		{"Count(04 fc)", answer(mask.Count(of(0x04, 0xfc))), answer(4)},
		{"Count(01 fe)", answer(mask.Count(of(0x01, 0xfe))), answer(0)},
		{"All(10 fd)", answer(slices.Collect(mask.All(of(0x10, 0xfd)))), answer([]uint8{0x10, 0x12})},
		{"Meet(04 0c, 10 f0)", meet(of(0x04, 0x0c), of(0x10, 0xf0)), answer(of(0x14, 0xfc), true)},
		{"Meet(06 ff, 11 ff)", meet(of(0x06, 0xff), of(0x11, 0xff)), answer(of(0x00, 0x00), false)},
		{"Less(00 00, 06 ff)", list(mask.Less(of(0x00, 0x00), of(0x06, 0xff))...), list(of(0x80, 0x80), of(0x40, 0xc0), of(0x20, 0xe0), of(0x10, 0xf0), of(0x08, 0xf8), of(0x00, 0xfc), of(0x04, 0xfe), of(0x07, 0xff))},
		{"Less(06 ff, 00 00)", list(mask.Less(of(0x06, 0xff), of(0x00, 0x00))...), list()},
		{"Less(06 ff, 11 ff)", list(mask.Less(of(0x06, 0xff), of(0x11, 0xff))...), list(of(0x06, 0xff))},
		{"Less(04 fc, 06 ff)", list(mask.Less(of(0x04, 0xfc), of(0x06, 0xff))...), list(of(0x04, 0xfe), of(0x07, 0xff))},
		{"Hull(6)", hull(6), answer(of(0x06, 0xff), int(api.OK))},
		{"Hull(6, 17)", hull(6, 17), answer(of(0x00, 0xe8), int(api.OK))},
		{"Hull()", hull(), answer(of(0x00, 0x00), int(api.ErrArg))},
	} {
		if x.got != x.want {
			t.Errorf("%s = %s; want %s", x.call, x.got, x.want)
		}
	}
}
