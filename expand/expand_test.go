package expand_test

import (
	"fmt"
	"math"
	"slices"
	"strconv"
	"strings"
	"testing"

	"quintet/api"
	"quintet/expand"
)

func stem(bits uint16, n int) api.Stem { return api.Stem{Bits: bits, Len: n} }

func of(lo, hi uint16) api.Span { return api.Span{Lo: lo, Hi: hi} }

func stems(l ...api.Stem) []api.Stem { return l }

func spans(l ...api.Span) []api.Span { return l }

// digits is a port as 16 digits. Stems are held against ports by these, another way than the package's own.
func digits(port uint16) string {
	text := strconv.FormatUint(uint64(port), 2)
	return strings.Repeat("0", 16-len(text)) + text
}

// mayBe tells it of a stem by its digits.
func mayBe(t api.Stem) bool {
	return 0 <= t.Len && t.Len <= 16 && !strings.Contains(digits(t.Bits)[t.Len:], "1")
}

// holds tells it of a stem that may be.
func holds(t api.Stem, port uint16) bool {
	return strings.HasPrefix(digits(port), digits(t.Bits)[:t.Len])
}

// ends are the ports of a stem that may be: its digits with noughts behind them, and with ones.
func ends(t api.Stem) api.Span {
	own := digits(t.Bits)[:t.Len]
	lo, _ := strconv.ParseUint(own+strings.Repeat("0", 16-t.Len), 2, 16)
	hi, _ := strconv.ParseUint(own+strings.Repeat("1", 16-t.Len), 2, 16)
	return of(uint16(lo), uint16(hi))
}

// ports is a set of them: of each port, how many of the set are below it (and of 65536, how many there are).
type ports [65537]int

// held is the ports of the spans.
func held(l ...api.Span) *ports {
	var steps [65537]int
	for _, s := range l {
		steps[s.Lo]++
		steps[int(s.Hi)+1]--
	}
	set, depth := new(ports), 0
	for port := range 65536 {
		depth += steps[port]
		set[port+1] = set[port] + min(depth, 1)
	}
	return set
}

// heldBy is the ports of stems that may be.
func heldBy(l []api.Stem) *ports {
	var list []api.Span
	for _, t := range l {
		list = append(list, ends(t))
	}
	return held(list...)
}

// has tells how many ports of a span are in the set.
func (p *ports) has(lo, hi int) int { return p[hi+1] - p[lo] }

// stems is the set as the stems that are in it while the ones above them are not: any stem of the set lies in just one of these, and each of these has to be there, or a part of it would be told by more. They are found from all ports downwards.
func (p *ports) stems() []api.Stem {
	var list []api.Stem
	var down func(own string)
	down = func(own string) {
		bits, _ := strconv.ParseUint(own+strings.Repeat("0", 16-len(own)), 2, 16)
		t := stem(uint16(bits), len(own))
		s := ends(t)
		switch p.has(int(s.Lo), int(s.Hi)) {
		case 0:
		case int(s.Hi) - int(s.Lo) + 1:
			list = append(list, t)
		default:
			down(own + "0")
			down(own + "1")
		}
	}
	down("")
	return list
}

// spans is the set's runs, each as long as it goes on.
func (p *ports) spans() []api.Span {
	var list []api.Span
	for port := range 65536 {
		switch in := p.has(port, port) == 1; {
		case in && (port == 0 || p.has(port-1, port-1) == 0):
			list = append(list, of(uint16(port), uint16(port)))
		case in:
			list[len(list)-1].Hi = uint16(port)
		}
	}
	return list
}

// someBits: those of ports at the edges and amid them, and each bit alone.
func someBits() []uint16 {
	list := []uint16{0, 3, 80, 0x5555, 0xaaaa, 0x7fff, 0x8001, 0xc000, 0xff00, 0xfffe, 0xffff}
	for i := range 16 {
		list = append(list, 1<<i)
	}
	return list
}

// anyStems: those bits with each length, also with those of which there are no stems.
func anyStems() []api.Stem {
	var list []api.Stem
	for _, bits := range someBits() {
		for _, n := range []int{math.MinInt, math.MinInt32, -256, -17, -16, -1, 17, 18, 31, 32, 33, 48, 64, 256, math.MaxInt32, math.MaxInt} {
			list = append(list, stem(bits, n))
		}
		for n := range 17 {
			list = append(list, stem(bits, n))
		}
	}
	return list
}

// wrong: stems that may not be, for each of the reasons.
func wrong() []api.Stem {
	return stems(stem(0, -1), stem(0, 17), stem(0x8000, 0), stem(1, 15), stem(0xffff, 15), stem(0x4000, 1), stem(0, math.MinInt), stem(0, math.MaxInt), stem(0xffff, 17))
}

// marks: ports at the edges, and beside each power of two.
func marks() []uint16 {
	list := []uint16{0, 80, 0x5555, 0xaaaa, 0xfffd, 0xfffe, 0xffff}
	for i := range 16 {
		list = append(list, 1<<i-1, 1<<i, 1<<i+1)
	}
	slices.Sort(list)
	return slices.Compact(list)
}

// someSpans: those between the marks, and all with both ends among the first ports, around the middle, and among the last ones.
func someSpans() []api.Span {
	var list []api.Span
	between := func(l []uint16) {
		for i, lo := range l {
			for _, hi := range l[i:] {
				list = append(list, of(lo, hi))
			}
		}
	}
	between(marks())
	for _, from := range []uint16{0, 32752, 65504} {
		var near []uint16
		for i := range uint16(32) {
			near = append(near, from+i)
		}
		between(near)
	}
	return list
}

// lists: the named ones, each two and three of few stems, and some longer ones that follow no plan, of few ports and of all.
func lists() [][]api.Stem {
	list := [][]api.Stem{
		nil, {},
		{stem(0, 0)},
		{stem(0, 16)},
		{stem(0xffff, 16)},
		{stem(0xffff, 16), stem(0, 16)},
		{stem(80, 16), stem(80, 16)},
		{stem(0x8000, 1), stem(0, 1)},
		{stem(0x8000, 1), stem(0x8000, 2), stem(0x8050, 16)},
		{stem(0x8050, 16), stem(0x8000, 2), stem(0x8000, 1)},
		{stem(0, 0), stem(0xffff, 16), stem(0, 16), stem(0, 0)},
		{stem(3, 16), stem(2, 16), stem(1, 16), stem(0, 16)},
		{stem(1, 16), stem(2, 16)},
		{stem(2, 15), stem(4, 15)},
		{stem(2, 15), stem(4, 14)},
		{stem(0x4000, 2), stem(0x8000, 2)},
	}
	few := stems(stem(0, 16), stem(1, 16), stem(0, 15), stem(2, 15), stem(4, 14), stem(0, 1), stem(0x8000, 1), stem(0xfffe, 15), stem(0xffff, 16))
	for _, a := range few {
		for _, b := range few {
			list = append(list, stems(a, b))
			for _, c := range few[:5] {
				list = append(list, stems(a, b, c))
			}
		}
	}
	x := uint32(5)
	next := func(below uint32) uint32 {
		x = x*1664525 + 1013904223
		return (x >> 8) % below
	}
	for _, below := range []uint32{16, 64, 65536} {
		for n := range 60 {
			var l []api.Stem
			for range 2 + n {
				length := 16 - int(next(5))
				l = append(l, stem(uint16(next(below))>>(16-length)<<(16-length), length))
			}
			list = append(list, l)
		}
	}
	return list
}

// P5.1

func TestCheckAsksForTheLenAndTheBits(t *testing.T) {
	for _, s := range append(anyStems(), wrong()...) {
		want := api.OK
		if !mayBe(s) {
			want = api.ErrStem
		}
		if err := expand.Check(s); err != want {
			t.Errorf("Check(%04x/%d) = %d; want %d", s.Bits, s.Len, err, want)
		}
	}
}

func TestHasThePortsThatBeginAlike(t *testing.T) {
	for _, s := range anyStems() {
		near := someBits()
		if mayBe(s) {
			e := ends(s)
			near = append(near, e.Lo-1, e.Lo, e.Lo+1, e.Hi-1, e.Hi, e.Hi+1)
		}
		for _, port := range near {
			want := mayBe(s) && holds(s, port)
			if got := expand.Has(s, port); got != want {
				t.Errorf("Has(%04x/%d, %d) = %t", s.Bits, s.Len, port, got)
			}
		}
	}
}

func TestHasNothingIfItMayNotBe(t *testing.T) {
	for _, s := range wrong() {
		for port := range 65536 {
			if expand.Has(s, uint16(port)) {
				t.Fatalf("Has(%04x/%d, %d) = true", s.Bits, s.Len, port)
			}
		}
	}
}

func TestSpanOfAStem(t *testing.T) {
	for _, s := range append(anyStems(), wrong()...) {
		want, fault := api.Span{}, api.ErrStem
		if mayBe(s) {
			want, fault = ends(s), api.OK
		}
		if got, err := expand.Span(s); got != want || err != fault {
			t.Errorf("Span(%04x/%d) = %v, %d; want %v, %d", s.Bits, s.Len, got, err, want, fault)
		}
	}
}

func TestSpanHasJustThePortsOfItsStem(t *testing.T) {
	for _, s := range stems(stem(0, 0), stem(0x8000, 1), stem(0x400, 6), stem(0xfffe, 15), stem(0, 16), stem(80, 16), stem(0xffff, 16)) {
		got, err := expand.Span(s)
		for port := range 65536 {
			in := int(got.Lo) <= port && port <= int(got.Hi)
			if err != api.OK || in != expand.Has(s, uint16(port)) {
				t.Fatalf("Span(%04x/%d) = %v, %d: not what is told of port %d", s.Bits, s.Len, got, err, port)
			}
		}
	}
}

// P5.2

func TestOfIsTheFewestRisingAndCountTheirNumber(t *testing.T) {
	for _, s := range someSpans() {
		want := held(s).stems()
		if got, err := expand.Of(s); !slices.Equal(got, want) || err != api.OK {
			t.Errorf("Of(%v) = %v, %d; want %v", s, got, err, want)
		}
		if got, err := expand.Count(s); got != len(want) || err != api.OK {
			t.Errorf("Count(%v) = %d, %d; want %d", s, got, err, len(want))
		}
	}
}

func TestOfAtTheEdges(t *testing.T) {
	for _, x := range []struct {
		s    api.Span
		want []api.Stem
	}{
		{of(0, 65535), stems(stem(0, 0))},
		{of(0, 0), stems(stem(0, 16))},
		{of(65535, 65535), stems(stem(0xffff, 16))},
		{of(65534, 65535), stems(stem(0xfffe, 15))},
		{of(65533, 65535), stems(stem(0xfffd, 16), stem(0xfffe, 15))},
		{of(0, 32767), stems(stem(0, 1))},
		{of(32768, 65535), stems(stem(0x8000, 1))},
		{of(0, 32768), stems(stem(0, 1), stem(0x8000, 16))},
		{of(32767, 32768), stems(stem(0x7fff, 16), stem(0x8000, 16))},
		{of(32767, 65535), stems(stem(0x7fff, 16), stem(0x8000, 1))},
		{of(1023, 1024), stems(stem(0x3ff, 16), stem(0x400, 16))},
		{of(1024, 2047), stems(stem(0x400, 6))},
		{of(1, 2), stems(stem(1, 16), stem(2, 16))},
	} {
		if got, err := expand.Of(x.s); !slices.Equal(got, x.want) || err != api.OK {
			t.Errorf("Of(%v) = %v, %d; want %v", x.s, got, err, x.want)
		}
	}
}

// As many as there can be: a stem of each length from 16 to 2, on both sides of the middle.
func TestOfAllPortsButTheEnds(t *testing.T) {
	var want []api.Stem
	for n := 16; n >= 2; n-- {
		want = append(want, stem(1<<(16-n), n))
	}
	for n := 2; n <= 16; n++ {
		want = append(want, stem(math.MaxUint16<<(17-n), n))
	}
	if got, err := expand.Of(of(1, 65534)); !slices.Equal(got, want) || err != api.OK {
		t.Errorf("Of(1-65534) = %v, %d; want %v", got, err, want)
	}
	if n, err := expand.Count(of(1, 65534)); n != 30 || err != api.OK {
		t.Errorf("Count(1-65534) = %d, %d; want 30", n, err)
	}
}

func TestOfAndCountOfEndsThatMayNotBe(t *testing.T) {
	for _, s := range spans(of(1, 0), of(2, 1), of(9, 3), of(65535, 0), of(65535, 65534), of(32768, 32767)) {
		if got, err := expand.Of(s); len(got) != 0 || err != api.ErrSpanEnds {
			t.Errorf("Of(%v) = %v, %d; want ErrSpanEnds", s, got, err)
		}
		if got, err := expand.Count(s); got != 0 || err != api.ErrSpanEnds {
			t.Errorf("Count(%v) = %d, %d; want ErrSpanEnds", s, got, err)
		}
	}
}

func TestOfAnswersNewMemory(t *testing.T) {
	first, _ := expand.Of(of(1, 6))
	want := slices.Clone(first)
	other, _ := expand.Of(of(7, 99))
	if !slices.Equal(first, want) {
		t.Errorf("Of(1-6) turned to %v when Of(7-99) was told", first)
	}
	clear(first[:cap(first)])
	again, _ := expand.Of(of(1, 6))
	if !slices.Equal(again, want) || !slices.Equal(other, held(of(7, 99)).stems()) {
		t.Errorf("Of(1-6) = %v, and Of(7-99) = %v, after an answer was written into", again, other)
	}
}

// P5.3

func TestBackIsTheFewestSpansRising(t *testing.T) {
	for _, l := range lists() {
		want := heldBy(l).spans()
		if got, err := expand.Back(l); !slices.Equal(got, want) || err != api.OK {
			t.Errorf("Back(%v) = %v, %d; want %v", l, got, err, want)
		}
	}
}

func TestBackAtTheEdges(t *testing.T) {
	for _, x := range []struct {
		name string
		l    []api.Stem
		want []api.Span
	}{
		{"nil", nil, nil},
		{"empty", stems(), nil},
		{"all ports", stems(stem(0, 0)), spans(of(0, 65535))},
		{"all ports in two", stems(stem(0x8000, 1), stem(0, 1)), spans(of(0, 65535))},
		{"the last port and the first", stems(stem(0xffff, 16), stem(0, 16)), spans(of(0, 0), of(65535, 65535))},
		{"the same twice", stems(stem(80, 16), stem(80, 16)), spans(of(80, 80))},
		{"one within the other", stems(stem(0x400, 6), stem(0x500, 8)), spans(of(1024, 2047))},
		{"the outer one behind", stems(stem(0x500, 8), stem(0x400, 6)), spans(of(1024, 2047))},
		{"beside one another, no halves", stems(stem(2, 16), stem(1, 16)), spans(of(1, 2))},
		{"with one port between", stems(stem(3, 16), stem(1, 16)), spans(of(1, 1), of(3, 3))},
	} {
		if got, err := expand.Back(x.l); !slices.Equal(got, x.want) || err != api.OK {
			t.Errorf("%s: Back(%v) = %v, %d; want %v", x.name, x.l, got, err, x.want)
		}
	}
}

// P5.4

func TestLeastIsTheFewestStemsRising(t *testing.T) {
	for _, l := range lists() {
		want := heldBy(l).stems()
		if got, err := expand.Least(l); !slices.Equal(got, want) || err != api.OK {
			t.Errorf("Least(%v) = %v, %d; want %v", l, got, err, want)
		}
	}
}

func TestLeastAtTheEdges(t *testing.T) {
	for _, x := range []struct {
		name    string
		l, want []api.Stem
	}{
		{"nil", nil, nil},
		{"empty", stems(), nil},
		{"all ports", stems(stem(0, 0)), stems(stem(0, 0))},
		{"halves of all", stems(stem(0x8000, 1), stem(0, 1)), stems(stem(0, 0))},
		{"halves of halves", stems(stem(3, 16), stem(1, 16), stem(2, 16), stem(0, 16)), stems(stem(0, 14))},
		{"no halves, though they touch", stems(stem(2, 16), stem(1, 16)), stems(stem(1, 16), stem(2, 16))},
		{"no halves, of two lengths", stems(stem(4, 14), stem(2, 15)), stems(stem(2, 15), stem(4, 14))},
		{"the same twice", stems(stem(80, 16), stem(80, 16)), stems(stem(80, 16))},
		{"one within the other", stems(stem(0x400, 6), stem(0x500, 8)), stems(stem(0x400, 6))},
		{"one within, and the other's half", stems(stem(0x400, 6), stem(0x500, 8), stem(0, 6)), stems(stem(0, 5))},
		{"the last port and the first", stems(stem(0xffff, 16), stem(0, 16)), stems(stem(0, 16), stem(0xffff, 16))},
	} {
		if got, err := expand.Least(x.l); !slices.Equal(got, x.want) || err != api.OK {
			t.Errorf("%s: Least(%v) = %v, %d; want %v", x.name, x.l, got, err, x.want)
		}
	}
}

// Each second port, the highest first and each one twice: as many stems as a list can come to. Then all ports one by one.
func TestBackAndLeastOfManyStems(t *testing.T) {
	var l, even []api.Stem
	var single []api.Span
	for i := range 32768 {
		low, high := uint16(2*i), uint16(65534-2*i)
		l = append(l, stem(high, 16), stem(high, 16))
		even = append(even, stem(low, 16))
		single = append(single, of(low, low))
	}
	if got, err := expand.Back(l); !slices.Equal(got, single) || err != api.OK {
		t.Errorf("Back of each second port: %d spans, %d", len(got), err)
	}
	if got, err := expand.Least(l); !slices.Equal(got, even) || err != api.OK {
		t.Errorf("Least of each second port: %d stems, %d", len(got), err)
	}
	for i := range 32768 {
		l = append(l, stem(uint16(2*i+1), 16))
	}
	if got, err := expand.Back(l); !slices.Equal(got, spans(of(0, 65535))) || err != api.OK {
		t.Errorf("Back of each port: %d spans, %d", len(got), err)
	}
	if got, err := expand.Least(l); !slices.Equal(got, stems(stem(0, 0))) || err != api.OK {
		t.Errorf("Least of each port: %d stems, %d", len(got), err)
	}
}

// P5.3 and P5.4: what holds of both.

func TestBackAndLeastOfAStemThatMayNotBe(t *testing.T) {
	good := stems(stem(0x400, 6), stem(0, 0), stem(80, 16))
	for _, s := range wrong() {
		for at := range len(good) + 1 {
			for n := at; n <= len(good); n++ {
				l := slices.Insert(slices.Clone(good[:n]), at, s)
				if got, err := expand.Back(l); len(got) != 0 || err != api.ErrStem {
					t.Errorf("Back(%v) = %v, %d; want ErrStem", l, got, err)
				}
				if got, err := expand.Least(l); len(got) != 0 || err != api.ErrStem {
					t.Errorf("Least(%v) = %v, %d; want ErrStem", l, got, err)
				}
			}
		}
	}
}

// The list, and its spare room too: a call that appends to its list would write there.
func TestWhatIsHandedInStaysAsItWas(t *testing.T) {
	room := stems(stem(4, 15), stem(3, 16), stem(0, 15), stem(2, 16), stem(3, 16), stem(77, 16), stem(0x8000, 0), stem(9, 99))
	was := slices.Clone(room)
	for n := range len(room) + 1 {
		expand.Back(room[:n])
		if !slices.Equal(room, was) {
			t.Fatalf("Back left %v; %d stems of %v were handed in", room, n, was)
		}
		expand.Least(room[:n])
		if !slices.Equal(room, was) {
			t.Fatalf("Least left %v; %d stems of %v were handed in", room, n, was)
		}
	}
}

func TestListsShareNoMemory(t *testing.T) {
	for _, l := range [][]api.Stem{{stem(80, 16)}, {stem(0, 15), stem(4, 14)}, {stem(9, 16), stem(4, 14), stem(0, 15)}} {
		was := slices.Clone(l)
		joined, _ := expand.Back(l)
		least, _ := expand.Least(l)
		wantSpans, wantStems := slices.Clone(joined), slices.Clone(least)
		for i := range l {
			l[i] = stem(7, 16)
		}
		expand.Back(l)
		expand.Least(l)
		if !slices.Equal(joined, wantSpans) || !slices.Equal(least, wantStems) {
			t.Errorf("Back(%v) and Least turned to %v and %v when the list was written into", was, joined, least)
		}
		copy(l, was)
		clear(joined[:cap(joined)])
		clear(least[:cap(least)])
		spansAgain, _ := expand.Back(l)
		stemsAgain, _ := expand.Least(l)
		if !slices.Equal(l, was) || !slices.Equal(spansAgain, wantSpans) || !slices.Equal(stemsAgain, wantStems) {
			t.Errorf("Back(%v) = %v and Least = %v, of %v, after the first answers were written into", was, spansAgain, stemsAgain, l)
		}
	}
}

// P5.5

func TestBackAndLeastOfOf(t *testing.T) {
	for _, s := range someSpans() {
		l, _ := expand.Of(s)
		if got, err := expand.Back(l); !slices.Equal(got, spans(s)) || err != api.OK {
			t.Errorf("Back of Of(%v) = %v, %d", s, got, err)
		}
		if got, err := expand.Least(l); !slices.Equal(got, l) || err != api.OK {
			t.Errorf("Least of Of(%v) = %v, %d; want %v", s, got, err, l)
		}
		slices.Reverse(l)
		if got, err := expand.Back(l); !slices.Equal(got, spans(s)) || err != api.OK {
			t.Errorf("Back of Of(%v), the last one first, = %v, %d", s, got, err)
		}
	}
}

func TestCountIsOneToThirty(t *testing.T) {
	least, most := math.MaxInt, 0
	for _, s := range someSpans() {
		n, err := expand.Count(s)
		if err != api.OK || n < 1 || n > 30 {
			t.Errorf("Count(%v) = %d, %d", s, n, err)
		}
		least, most = min(least, n), max(most, n)
	}
	if least != 1 || most != 30 {
		t.Errorf("Count is %d to %d; want 1 to 30", least, most)
	}
}

// The chapter's table of examples.

// answer is an answer's texts: the calls answer of several types.
func answer(values ...any) string { return fmt.Sprint(values...) }

// none leaves no difference between a list that is nil and an empty one.
func none[T any](l []T, err api.Errno) string { return answer(append([]T{}, l...), err) }

func TestExamples(t *testing.T) {
	check := func(s api.Stem) string { return answer(expand.Check(s)) }
	span := func(s api.Stem) string { got, err := expand.Span(s); return answer(got, err) }
	list := func(s api.Span) string { return none(expand.Of(s)) }
	for _, x := range []struct{ call, got, want string }{
		{"Check(0000/0)", check(stem(0, 0)), answer(api.OK)},
		{"Check(8000/1)", check(stem(0x8000, 1)), answer(api.OK)},
		{"Check(8000/0)", check(stem(0x8000, 0)), answer(api.ErrStem)},
		{"Check(0000/17)", check(stem(0, 17)), answer(api.ErrStem)},
		{"Span(0050/16)", span(stem(0x50, 16)), answer(of(80, 80), api.OK)},
		{"Span(0400/6)", span(stem(0x400, 6)), answer(of(1024, 2047), api.OK)},
		{"Span(0001/15)", span(stem(1, 15)), answer(of(0, 0), api.ErrStem)},
		{"Of(0-65535)", list(of(0, 65535)), answer(stems(stem(0, 0)), api.OK)},
		{"Of(80-80)", list(of(80, 80)), answer(stems(stem(0x50, 16)), api.OK)},
		{"Of(1-6)", list(of(1, 6)), answer(stems(stem(1, 16), stem(2, 15), stem(4, 15), stem(6, 16)), api.OK)},
		{"Of(2-1)", list(of(2, 1)), answer(stems(), api.ErrSpanEnds)},
		{"Of(1024-65535)", list(of(1024, 65535)), answer(stems(stem(0x400, 6), stem(0x800, 5), stem(0x1000, 4), stem(0x2000, 3), stem(0x4000, 2), stem(0x8000, 1)), api.OK)},
		{"Back(0004/15, 0002/15, 0010/16)", none(expand.Back(stems(stem(4, 15), stem(2, 15), stem(16, 16)))), answer(spans(of(2, 5), of(16, 16)), api.OK)},
		{"Back(none)", none(expand.Back(nil)), answer(spans(), api.OK)},
		{"Least(0002/15, 0000/15, 0003/16)", none(expand.Least(stems(stem(2, 15), stem(0, 15), stem(3, 16)))), answer(stems(stem(0, 14)), api.OK)},
	} {
		if x.got != x.want {
			t.Errorf("%s = %s; want %s", x.call, x.got, x.want)
		}
	}
	if n, err := expand.Count(of(1, 65534)); n != 30 || err != api.OK {
		t.Errorf("Count(1-65534) = %d, %d; want 30, 0", n, err)
	}
}
