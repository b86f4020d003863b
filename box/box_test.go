package box_test

import (
	"math"
	"math/big"
	"slices"
	"testing"

	"quintet/api"
	"quintet/box"
	"quintet/mask"
)

const (
	lastAddr = math.MaxUint32
	lastPort = math.MaxUint16
)

// whole is the box of all headers, written out.
var whole = api.Box{
	Src: api.Run{Lo: 0, Hi: 4294967295}, Dst: api.Run{Lo: 0, Hi: 4294967295},
	Sport: api.Span{Lo: 0, Hi: 65535}, Dport: api.Span{Lo: 0, Hi: 65535},
	Proto: api.Mask{Value: 0, Care: 0},
}

// with is a box with some of its fields changed.
func with(b api.Box, changes ...func(*api.Box)) api.Box {
	for _, change := range changes {
		change(&b)
	}
	return b
}

func src(lo, hi uint32) func(*api.Box) {
	return func(b *api.Box) { b.Src = api.Run{Lo: lo, Hi: hi} }
}

func dst(lo, hi uint32) func(*api.Box) {
	return func(b *api.Box) { b.Dst = api.Run{Lo: lo, Hi: hi} }
}

func sport(lo, hi uint16) func(*api.Box) {
	return func(b *api.Box) { b.Sport = api.Span{Lo: lo, Hi: hi} }
}

func dport(lo, hi uint16) func(*api.Box) {
	return func(b *api.Box) { b.Dport = api.Span{Lo: lo, Hi: hi} }
}

func proto(value, care uint8) func(*api.Box) {
	return func(b *api.Box) { b.Proto = api.Mask{Value: value, Care: care} }
}

// point is the box of one header.
func point(h api.Header) api.Box {
	return with(whole, src(h.Src, h.Src), dst(h.Dst, h.Dst), sport(h.Sport, h.Sport), dport(h.Dport, h.Dport), proto(h.Proto, 255))
}

// middle is a box none of whose fields is at an edge.
var middle = with(whole, src(100, 199), dst(200, 299), sport(300, 399), dport(400, 499), proto(0x11, 0x33))

// The model: a box's four number fields as ends of big numbers, its protocols as a set.

type ends struct{ lo, hi int64 }

func numbers(b api.Box) [4]ends {
	return [4]ends{
		{int64(b.Src.Lo), int64(b.Src.Hi)}, {int64(b.Dst.Lo), int64(b.Dst.Hi)},
		{int64(b.Sport.Lo), int64(b.Sport.Hi)}, {int64(b.Dport.Lo), int64(b.Dport.Hi)},
	}
}

func protocols(m api.Mask) (set [256]bool, n int) {
	for p := range set {
		set[p] = m.Value&^m.Care == 0 && uint8(p)&m.Care == m.Value
		if set[p] {
			n++
		}
	}
	return set, n
}

func values(h api.Header) [4]int64 {
	return [4]int64{int64(h.Src), int64(h.Dst), int64(h.Sport), int64(h.Dport)}
}

// mayBe is DOC.md's: the two runs, two spans and mask may be.
func mayBe(b api.Box) bool {
	for _, e := range numbers(b) {
		if e.lo > e.hi {
			return false
		}
	}
	_, n := protocols(b.Proto)
	return n > 0
}

// holds is the model's Has.
func holds(b api.Box, h api.Header) bool {
	v := values(h)
	for i, e := range numbers(b) {
		if v[i] < e.lo || e.hi < v[i] {
			return false
		}
	}
	set, _ := protocols(b.Proto)
	return mayBe(b) && set[h.Proto]
}

// size is the model's Count.
func size(b api.Box) *big.Int {
	_, n := protocols(b.Proto)
	total := big.NewInt(int64(n))
	for _, e := range numbers(b) {
		total.Mul(total, big.NewInt(max(0, e.hi-e.lo+1)))
	}
	return total
}

// told is Count's answer as one number.
func told(b api.Box) *big.Int {
	high, low := box.Count(b)
	n := new(big.Int).Lsh(new(big.Int).SetUint64(high), 64)
	return n.Add(n, new(big.Int).SetUint64(low))
}

// within is the model's Within.
func within(a, b api.Box) bool {
	if !mayBe(a) || !mayBe(b) {
		return false
	}
	x, y := numbers(a), numbers(b)
	for i := range x {
		if x[i].lo < y[i].lo || y[i].hi < x[i].hi {
			return false
		}
	}
	p, _ := protocols(a.Proto)
	q, _ := protocols(b.Proto)
	for i := range p {
		if p[i] && !q[i] {
			return false
		}
	}
	return true
}

// share tells whether two boxes hold a header in common, by the model.
func share(a, b api.Box) bool {
	x, y := numbers(a), numbers(b)
	for i := range x {
		if x[i].hi < y[i].lo || y[i].hi < x[i].lo {
			return false
		}
	}
	p, _ := protocols(a.Proto)
	q, _ := protocols(b.Proto)
	for i := range p {
		if p[i] && q[i] {
			return mayBe(a) && mayBe(b)
		}
	}
	return false
}

// less is P7.4 word by word. It cuts by the ends of b, and asks of each cut whether such a one is there.
func less(a, b api.Box) []api.Box {
	if !mayBe(a) || !mayBe(b) {
		return nil
	}
	if !share(a, b) {
		return []api.Box{a}
	}
	var list []api.Box
	if a.Src.Lo < b.Src.Lo {
		list = append(list, with(a, src(a.Src.Lo, b.Src.Lo-1)))
	}
	if a.Src.Hi > b.Src.Hi {
		list = append(list, with(a, src(b.Src.Hi+1, a.Src.Hi)))
	}
	one := with(a, src(max(a.Src.Lo, b.Src.Lo), min(a.Src.Hi, b.Src.Hi)))
	if a.Dst.Lo < b.Dst.Lo {
		list = append(list, with(one, dst(a.Dst.Lo, b.Dst.Lo-1)))
	}
	if a.Dst.Hi > b.Dst.Hi {
		list = append(list, with(one, dst(b.Dst.Hi+1, a.Dst.Hi)))
	}
	two := with(one, dst(max(a.Dst.Lo, b.Dst.Lo), min(a.Dst.Hi, b.Dst.Hi)))
	if a.Sport.Lo < b.Sport.Lo {
		list = append(list, with(two, sport(a.Sport.Lo, b.Sport.Lo-1)))
	}
	if a.Sport.Hi > b.Sport.Hi {
		list = append(list, with(two, sport(b.Sport.Hi+1, a.Sport.Hi)))
	}
	three := with(two, sport(max(a.Sport.Lo, b.Sport.Lo), min(a.Sport.Hi, b.Sport.Hi)))
	if a.Dport.Lo < b.Dport.Lo {
		list = append(list, with(three, dport(a.Dport.Lo, b.Dport.Lo-1)))
	}
	if a.Dport.Hi > b.Dport.Hi {
		list = append(list, with(three, dport(b.Dport.Hi+1, a.Dport.Hi)))
	}
	four := with(three, dport(max(a.Dport.Lo, b.Dport.Lo), min(a.Dport.Hi, b.Dport.Hi)))
	for _, m := range mask.Less(a.Proto, b.Proto) {
		list = append(list, with(four, proto(m.Value, m.Care)))
	}
	return list
}

// drawer gives numbers by a rule that goes all about, the same each time.
func drawer(state uint64) func(n int) int {
	return func(n int) int {
		state = state*6364136223846793005 + 1442695040888963407
		return int(state >> 33 % uint64(n))
	}
}

// runs, spans and masks: at the edges and amid them, one number and many, some that may not be.

var runs = []api.Run{
	{Lo: 0, Hi: lastAddr}, {Lo: 0, Hi: 0}, {Lo: lastAddr, Hi: lastAddr}, {Lo: 0, Hi: 9}, {Lo: 10, Hi: 19}, {Lo: 5, Hi: 14},
	{Lo: 9, Hi: 9}, {Lo: 9, Hi: 10}, {Lo: 1, Hi: lastAddr}, {Lo: 0, Hi: lastAddr - 1}, {Lo: 1 << 31, Hi: lastAddr}, {Lo: 0, Hi: 1<<31 - 1},
}

var spans = []api.Span{
	{Lo: 0, Hi: lastPort}, {Lo: 0, Hi: 0}, {Lo: lastPort, Hi: lastPort}, {Lo: 0, Hi: 9}, {Lo: 10, Hi: 19}, {Lo: 5, Hi: 14},
	{Lo: 9, Hi: 9}, {Lo: 9, Hi: 10}, {Lo: 1, Hi: lastPort}, {Lo: 0, Hi: lastPort - 1}, {Lo: 1 << 15, Hi: lastPort}, {Lo: 0, Hi: 1<<15 - 1},
}

var masks = []api.Mask{
	{Value: 0, Care: 0}, {Value: 0, Care: 255}, {Value: 255, Care: 255}, {Value: 6, Care: 255}, {Value: 17, Care: 255}, {Value: 0, Care: 0x80},
	{Value: 0x80, Care: 0x80}, {Value: 0, Care: 1}, {Value: 1, Care: 1}, {Value: 0x11, Care: 0x33}, {Value: 0x10, Care: 0xf0}, {Value: 0x04, Care: 0x0f},
}

// drawBox is a box that may be.
func drawBox(draw func(int) int) api.Box {
	return api.Box{
		Src: runs[draw(len(runs))], Dst: runs[draw(len(runs))],
		Sport: spans[draw(len(spans))], Dport: spans[draw(len(spans))],
		Proto: masks[draw(len(masks))],
	}
}

// near is a box of the same kind with but one or two fields drawn anew, so that many pairs share headers.
func near(b api.Box, draw func(int) int) api.Box {
	other := drawBox(draw)
	for range 1 + draw(3) {
		switch draw(5) {
		case 0:
			b.Src = other.Src
		case 1:
			b.Dst = other.Dst
		case 2:
			b.Sport = other.Sport
		case 3:
			b.Dport = other.Dport
		case 4:
			b.Proto = other.Proto
		}
	}
	return b
}

// wrong are boxes that may not be, and their errors: each field, two at once, together with a mask that may not be.
var wrong = []struct {
	b    api.Box
	want api.Errno
}{
	{with(whole, src(2, 1)), api.ErrBoxRun},
	{with(whole, src(1, 0)), api.ErrBoxRun},
	{with(whole, src(lastAddr, lastAddr-1)), api.ErrBoxRun},
	{with(whole, src(lastAddr, 0)), api.ErrBoxRun},
	{with(whole, dst(2, 1)), api.ErrBoxRun},
	{with(whole, dst(lastAddr, 0)), api.ErrBoxRun},
	{with(whole, sport(2, 1)), api.ErrSpanEnds},
	{with(whole, sport(lastPort, 0)), api.ErrSpanEnds},
	{with(whole, dport(2, 1)), api.ErrSpanEnds},
	{with(whole, dport(lastPort, lastPort-1)), api.ErrSpanEnds},
	{with(whole, proto(1, 0)), api.ErrMaskBits},
	{with(whole, proto(0x80, 0x7f)), api.ErrMaskBits},
	{with(whole, proto(255, 254)), api.ErrMaskBits},
	{with(whole, src(2, 1), dst(2, 1)), api.ErrBoxRun},
	{with(whole, src(2, 1), sport(2, 1)), api.ErrBoxRun},
	{with(whole, src(2, 1), dport(2, 1)), api.ErrBoxRun},
	{with(whole, src(2, 1), proto(1, 0)), api.ErrBoxRun},
	{with(whole, dst(2, 1), sport(2, 1)), api.ErrBoxRun},
	{with(whole, dst(2, 1), dport(2, 1)), api.ErrBoxRun},
	{with(whole, dst(2, 1), proto(1, 0)), api.ErrBoxRun},
	{with(whole, sport(2, 1), dport(2, 1)), api.ErrSpanEnds},
	{with(whole, sport(2, 1), proto(1, 0)), api.ErrSpanEnds},
	{with(whole, dport(2, 1), proto(1, 0)), api.ErrSpanEnds},
	{with(whole, src(2, 1), dst(2, 1), sport(2, 1), dport(2, 1), proto(1, 0)), api.ErrBoxRun},
	{with(middle, src(200, 100)), api.ErrBoxRun},
	{with(middle, dport(500, 400)), api.ErrSpanEnds},
	{with(middle, proto(0x15, 0x33)), api.ErrMaskBits},
}

// allBoxes are boxes that may be: each field's edges alone in the whole box and in the middle one, points, and some that are drawn.
func allBoxes() []api.Box {
	list := []api.Box{whole, middle, {}, point(api.Header{}), point(greatest), point(web)}
	for i := range runs {
		for _, b := range []api.Box{whole, middle} {
			list = append(list,
				with(b, src(runs[i].Lo, runs[i].Hi)), with(b, dst(runs[i].Lo, runs[i].Hi)),
				with(b, sport(spans[i].Lo, spans[i].Hi)), with(b, dport(spans[i].Lo, spans[i].Hi)),
				with(b, proto(masks[i].Value, masks[i].Care)))
		}
	}
	draw := drawer(7)
	for range 100 {
		list = append(list, drawBox(draw))
	}
	return list
}

var (
	greatest = api.Header{Src: lastAddr, Dst: lastAddr, Sport: lastPort, Dport: lastPort, Proto: 255}
	web      = api.Header{Src: 0x0a000001, Dst: 0xc0a80002, Sport: 1024, Dport: 80, Proto: 6}
)

// headersAt are headers whose fields stand at, beside and between the ends of some boxes.
func headersAt(draw func(int) int, n int, boxes ...api.Box) []api.Header {
	addrs, ports, protos := []uint32{0, lastAddr}, []uint16{0, lastPort}, []uint8{0, 255}
	for _, b := range boxes {
		for _, r := range []api.Run{b.Src, b.Dst} {
			addrs = append(addrs, r.Lo-1, r.Lo, r.Lo/2+r.Hi/2, r.Hi, r.Hi+1)
		}
		for _, s := range []api.Span{b.Sport, b.Dport} {
			ports = append(ports, s.Lo-1, s.Lo, s.Lo/2+s.Hi/2, s.Hi, s.Hi+1)
		}
		protos = append(protos, b.Proto.Value, b.Proto.Value|^b.Proto.Care, ^b.Proto.Value)
	}
	var list []api.Header
	for range n {
		h := api.Header{
			Src: addrs[draw(len(addrs))], Dst: addrs[draw(len(addrs))],
			Sport: ports[draw(len(ports))], Dport: ports[draw(len(ports))],
			Proto: protos[draw(len(protos))],
		}
		if draw(3) == 0 {
			h.Proto = uint8(draw(256))
		}
		list = append(list, h)
	}
	return list
}

// inside is a header of a box that may be.
func inside(b api.Box, draw func(int) int) api.Header {
	pick := func(lo, hi uint64) uint64 { return lo + uint64(draw(1<<30))%(hi-lo+1) }
	return api.Header{
		Src: uint32(pick(uint64(b.Src.Lo), uint64(b.Src.Hi))), Dst: uint32(pick(uint64(b.Dst.Lo), uint64(b.Dst.Hi))),
		Sport: uint16(pick(uint64(b.Sport.Lo), uint64(b.Sport.Hi))), Dport: uint16(pick(uint64(b.Dport.Lo), uint64(b.Dport.Hi))),
		Proto: uint8(draw(256))&^b.Proto.Care | b.Proto.Value,
	}
}

// P7.1

func TestWhole(t *testing.T) {
	if got := box.Whole(); got != whole {
		t.Errorf("Whole() = %v, want %v", got, whole)
	}
	b := box.Whole()
	b.Src.Hi, b.Proto.Care = 3, 255
	if got := box.Whole(); got != whole {
		t.Errorf("Whole() = %v once the box told ahead was written into", got)
	}
}

func TestCheck(t *testing.T) {
	for _, b := range allBoxes() {
		if err := box.Check(b); err != api.OK {
			t.Errorf("Check(%v) = %d", b, err)
		}
	}
	for _, c := range wrong {
		if err := box.Check(c.b); err != c.want {
			t.Errorf("Check(%v) = %d, want %d", c.b, err, c.want)
		}
	}
}

func TestHas(t *testing.T) {
	draw := drawer(11)
	for _, b := range allBoxes() {
		for _, h := range append(headersAt(draw, 60, b), api.Header{}, greatest, web, inside(b, draw), inside(b, draw)) {
			if got := box.Has(b, h); got != holds(b, h) {
				t.Errorf("Has(%v, %v) = %v", b, h, got)
			}
		}
	}
}

func TestHasAtEachEnd(t *testing.T) {
	in := api.Header{Src: 150, Dst: 250, Sport: 350, Dport: 450, Proto: 0x11}
	if !box.Has(middle, in) {
		t.Fatal("the header amid the box is not in it")
	}
	for _, c := range []struct {
		name string
		put  func(*api.Header, uint32)
		lo   uint32
		hi   uint32
	}{
		{"Src", func(h *api.Header, v uint32) { h.Src = v }, 100, 199},
		{"Dst", func(h *api.Header, v uint32) { h.Dst = v }, 200, 299},
		{"Sport", func(h *api.Header, v uint32) { h.Sport = uint16(v) }, 300, 399},
		{"Dport", func(h *api.Header, v uint32) { h.Dport = uint16(v) }, 400, 499},
	} {
		for v, want := range map[uint32]bool{0: false, c.lo - 1: false, c.lo: true, c.hi: true, c.hi + 1: false, 65535: false} {
			h := in
			c.put(&h, v)
			if got := box.Has(middle, h); got != want {
				t.Errorf("Has with %s %d = %v", c.name, v, got)
			}
		}
	}
	for p := range 256 {
		h := in
		h.Proto = uint8(p)
		if got, want := box.Has(middle, h), p&0x33 == 0x11; got != want {
			t.Errorf("Has with Proto %d = %v", p, got)
		}
	}
}

func TestWrongBoxHasNothing(t *testing.T) {
	draw := drawer(13)
	for _, c := range wrong {
		for _, h := range append(headersAt(draw, 300, c.b), api.Header{}, greatest, web) {
			if box.Has(c.b, h) {
				t.Errorf("Has(%v, %v) = true", c.b, h)
			}
		}
	}
}

func TestWholeHasAll(t *testing.T) {
	for _, h := range headersAt(drawer(17), 500, middle, drawBox(drawer(3))) {
		if !box.Has(whole, h) {
			t.Errorf("the whole box has not %v", h)
		}
	}
}

// P7.2

func TestFirst(t *testing.T) {
	for _, b := range allBoxes() {
		want := api.Header{Src: b.Src.Lo, Dst: b.Dst.Lo, Sport: b.Sport.Lo, Dport: b.Dport.Lo}
		set, _ := protocols(b.Proto)
		for !set[want.Proto] {
			want.Proto++
		}
		if got, err := box.First(b); got != want || err != api.OK {
			t.Errorf("First(%v) = %v, %d, want %v", b, got, err, want)
		}
	}
}

func TestFirstOfWrong(t *testing.T) {
	for _, c := range wrong {
		if got, err := box.First(c.b); got != (api.Header{}) || err != c.want {
			t.Errorf("First(%v) = %v, %d, want %d", c.b, got, err, c.want)
		}
	}
}

func TestCount(t *testing.T) {
	for _, b := range allBoxes() {
		if got, want := told(b), size(b); got.Cmp(want) != 0 {
			t.Errorf("Count(%v) = %v, want %v", b, got, want)
		}
	}
	for _, c := range wrong {
		if high, low := box.Count(c.b); high != 0 || low != 0 {
			t.Errorf("Count(%v) = %d, %d", c.b, high, low)
		}
	}
}

func TestCountAboutTwoToThe64(t *testing.T) {
	single := with(point(api.Header{}), src(0, lastAddr))
	for _, c := range []struct {
		b         api.Box
		high, low uint64
	}{
		{point(web), 0, 1},
		{api.Box{}, 0, 256},
		{single, 0, 1 << 32},
		{with(single, dst(0, lastAddr-1)), 0, math.MaxUint64 - lastAddr},
		{with(single, dst(0, lastAddr)), 1, 0},
		{with(single, dst(0, lastAddr), sport(7, 9)), 3, 0},
		{with(single, dst(0, lastAddr-1), sport(0, 1)), 1, math.MaxUint64 - 2*lastAddr - 1},
		{with(single, src(1, lastAddr), dst(1, lastAddr)), 0, lastAddr * lastAddr},
		{with(single, src(1, lastAddr), dst(1, lastAddr), dport(8, 9)), 1, math.MaxUint64 - 4*lastAddr - 1},
		{with(single, sport(0, lastPort), dport(0, lastPort)), 1, 0},
		{with(single, sport(0, lastPort), dport(1, lastPort)), 0, math.MaxUint64 - 1<<48 + 1},
		{with(whole, proto(0, 255)), 1 << 32, 0},
		{with(whole, proto(0, 254)), 1 << 33, 0},
		{whole, 1 << 40, 0},
		{with(whole, src(1, lastAddr)), 1<<40 - 256, 0},
		{with(whole, src(1, lastAddr), dst(1, lastAddr), sport(1, lastPort), dport(1, lastPort)), 0xfffdffff00, 0x3fffefffe000100},
	} {
		if high, low := box.Count(c.b); high != c.high || low != c.low {
			t.Errorf("Count(%v) = %d, %d, want %d, %d", c.b, high, low, c.high, c.low)
		}
	}
}

// P7.3

// pairs are boxes two by two: each field drawn from the edges, so that they hold one another, share one number, touch, lie apart.
func pairs() [][2]api.Box {
	var list [][2]api.Box
	for i := range runs {
		for j := range runs {
			list = append(list,
				[2]api.Box{with(middle, src(runs[i].Lo, runs[i].Hi)), with(middle, src(runs[j].Lo, runs[j].Hi))},
				[2]api.Box{with(middle, dst(runs[i].Lo, runs[i].Hi)), with(middle, dst(runs[j].Lo, runs[j].Hi))},
				[2]api.Box{with(middle, sport(spans[i].Lo, spans[i].Hi)), with(middle, sport(spans[j].Lo, spans[j].Hi))},
				[2]api.Box{with(middle, dport(spans[i].Lo, spans[i].Hi)), with(middle, dport(spans[j].Lo, spans[j].Hi))},
				[2]api.Box{with(middle, proto(masks[i].Value, masks[i].Care)), with(middle, proto(masks[j].Value, masks[j].Care))})
		}
	}
	draw := drawer(19)
	for range 1500 {
		a := drawBox(draw)
		list = append(list, [2]api.Box{a, near(a, draw)}, [2]api.Box{near(a, draw), drawBox(draw)}, [2]api.Box{a, whole}, [2]api.Box{whole, a})
	}
	return list
}

func TestWithin(t *testing.T) {
	for _, p := range pairs() {
		if got, want := box.Within(p[0], p[1]), within(p[0], p[1]); got != want {
			t.Errorf("Within(%v, %v) = %v", p[0], p[1], got)
		}
	}
	for _, b := range allBoxes() {
		if !box.Within(b, b) || !box.Within(b, whole) {
			t.Errorf("%v is not within itself and the whole", b)
		}
	}
}

func TestWithinFieldByField(t *testing.T) {
	for _, inner := range []api.Box{
		with(middle, src(101, 199)), with(middle, src(100, 198)), with(middle, dst(201, 299)), with(middle, dst(200, 298)),
		with(middle, sport(301, 399)), with(middle, sport(300, 398)), with(middle, dport(401, 499)), with(middle, dport(400, 498)),
		with(middle, proto(0x11, 0x37)), with(middle, proto(0x15, 0x37)),
	} {
		if !box.Within(inner, middle) || box.Within(middle, inner) {
			t.Errorf("%v is not just within %v", inner, middle)
		}
	}
}

func TestWithinOfWrong(t *testing.T) {
	for _, c := range wrong {
		for _, b := range []api.Box{whole, middle, {}, c.b} {
			if box.Within(c.b, b) || box.Within(b, c.b) {
				t.Errorf("Within of %v and %v", c.b, b)
			}
		}
		for _, d := range wrong {
			if box.Within(c.b, d.b) {
				t.Errorf("Within(%v, %v)", c.b, d.b)
			}
		}
	}
}

func TestMeet(t *testing.T) {
	draw := drawer(23)
	shared := 0
	for _, p := range pairs() {
		a, b := p[0], p[1]
		got, ok := box.Meet(a, b)
		if ok != share(a, b) {
			t.Errorf("Meet(%v, %v) = %v, %v", a, b, got, ok)
			continue
		}
		if !ok {
			if got != (api.Box{}) {
				t.Errorf("Meet(%v, %v) = %v beside false", a, b, got)
			}
			continue
		}
		shared++
		if !mayBe(got) || !within(got, a) || !within(got, b) {
			t.Errorf("Meet(%v, %v) = %v", a, b, got)
		}
		for _, h := range append(headersAt(draw, 10, a, b), inside(a, draw), inside(b, draw), inside(got, draw)) {
			if holds(got, h) != (holds(a, h) && holds(b, h)) {
				t.Errorf("Meet(%v, %v) = %v, and %v", a, b, got, h)
			}
		}
		if other, _ := box.Meet(b, a); other != got {
			t.Errorf("Meet(%v, %v) = %v, the other way round %v", a, b, got, other)
		}
	}
	if shared < 500 {
		t.Errorf("only %d pairs share a header", shared)
	}
}

func TestMeetByHand(t *testing.T) {
	for _, c := range []struct {
		a, b, want api.Box
		ok         bool
	}{
		{whole, middle, middle, true},
		{middle, middle, middle, true},
		{middle, api.Box{}, api.Box{}, false},
		{api.Box{}, api.Box{}, api.Box{}, true},
		{whole, point(web), point(web), true},
		{with(whole, src(0, 9)), with(whole, src(9, 20)), with(whole, src(9, 9)), true},
		{with(whole, src(0, 9)), with(whole, src(10, 20)), api.Box{}, false},
		{with(whole, dst(0, 9)), with(whole, dst(9, 20)), with(whole, dst(9, 9)), true},
		{with(whole, dst(10, 20)), with(whole, dst(0, 9)), api.Box{}, false},
		{with(whole, sport(0, 9)), with(whole, sport(9, 20)), with(whole, sport(9, 9)), true},
		{with(whole, sport(0, 9)), with(whole, sport(10, 20)), api.Box{}, false},
		{with(whole, dport(9, 20)), with(whole, dport(0, 9)), with(whole, dport(9, 9)), true},
		{with(whole, dport(0, 9)), with(whole, dport(10, 20)), api.Box{}, false},
		{with(whole, proto(0x10, 0xf0)), with(whole, proto(0x01, 0x0f)), with(whole, proto(0x11, 0xff)), true},
		{with(whole, proto(0x10, 0xf0)), with(whole, proto(0x00, 0x10)), api.Box{}, false},
		{with(whole, src(0, lastAddr)), with(whole, src(lastAddr, lastAddr)), with(whole, src(lastAddr, lastAddr)), true},
		{
			with(whole, src(0, 9), dst(4, 12), sport(3, 3), dport(0, 80), proto(2, 2)), with(whole, src(5, 20), dst(0, 7), sport(0, 8), dport(80, 90), proto(4, 6)),
			api.Box{}, false,
		},
		{
			with(whole, src(0, 9), dst(4, 12), sport(3, 3), dport(0, 80), proto(2, 2)), with(whole, src(5, 20), dst(0, 7), sport(0, 8), dport(80, 90), proto(4, 4)),
			with(whole, src(5, 9), dst(4, 7), sport(3, 3), dport(80, 80), proto(6, 6)), true,
		},
	} {
		if got, ok := box.Meet(c.a, c.b); got != c.want || ok != c.ok {
			t.Errorf("Meet(%v, %v) = %v, %v, want %v, %v", c.a, c.b, got, ok, c.want, c.ok)
		}
	}
}

func TestMeetOfWrong(t *testing.T) {
	for _, c := range wrong {
		for _, b := range []api.Box{whole, middle, {}, c.b, wrong[0].b, wrong[7].b, wrong[10].b} {
			if got, ok := box.Meet(c.b, b); ok || got != (api.Box{}) {
				t.Errorf("Meet(%v, %v) = %v, %v", c.b, b, got, ok)
			}
			if got, ok := box.Meet(b, c.b); ok || got != (api.Box{}) {
				t.Errorf("Meet(%v, %v) = %v, %v", b, c.b, got, ok)
			}
		}
	}
}

// P7.4

func TestLess(t *testing.T) {
	for _, p := range pairs() {
		if got, want := box.Less(p[0], p[1]), less(p[0], p[1]); !slices.Equal(got, want) {
			t.Errorf("Less(%v, %v) = %v, want %v", p[0], p[1], got, want)
		}
	}
}

// A step of Less with a part below, a part above, both, neither.
func TestLessStepByStep(t *testing.T) {
	a := with(whole, src(10, 19), dst(20, 29), sport(30, 39), dport(40, 49), proto(0, 0xfe))
	for _, c := range []struct {
		name string
		b    api.Box
		want []api.Box
	}{
		{"the same", a, nil},
		{"Src below", with(a, src(15, 25)), []api.Box{with(a, src(10, 14))}},
		{"Src above", with(a, src(0, 15)), []api.Box{with(a, src(16, 19))}},
		{"Src both", with(a, src(11, 18)), []api.Box{with(a, src(10, 10)), with(a, src(19, 19))}},
		{"Src neither", with(a, src(0, lastAddr)), nil},
		{"Dst below", with(a, dst(25, 35)), []api.Box{with(a, dst(20, 24))}},
		{"Dst above", with(a, dst(0, 25)), []api.Box{with(a, dst(26, 29))}},
		{"Dst both", with(a, dst(21, 28)), []api.Box{with(a, dst(20, 20)), with(a, dst(29, 29))}},
		{"Dst neither", with(a, dst(0, lastAddr)), nil},
		{"Sport below", with(a, sport(35, 45)), []api.Box{with(a, sport(30, 34))}},
		{"Sport above", with(a, sport(0, 35)), []api.Box{with(a, sport(36, 39))}},
		{"Sport both", with(a, sport(31, 38)), []api.Box{with(a, sport(30, 30)), with(a, sport(39, 39))}},
		{"Sport neither", with(a, sport(0, lastPort)), nil},
		{"Dport below", with(a, dport(45, 55)), []api.Box{with(a, dport(40, 44))}},
		{"Dport above", with(a, dport(0, 45)), []api.Box{with(a, dport(46, 49))}},
		{"Dport both", with(a, dport(41, 48)), []api.Box{with(a, dport(40, 40)), with(a, dport(49, 49))}},
		{"Dport neither", with(a, dport(0, lastPort)), nil},
		{"Proto 1", with(a, proto(0, 0xff)), []api.Box{with(a, proto(1, 0xff))}},
		{"Proto 0", with(a, proto(1, 0xff)), []api.Box{with(a, proto(0, 0xff))}},
		{"Proto neither", with(a, proto(0, 0)), nil},
		{"all five", with(whole, src(11, 18), dst(21, 28), sport(31, 38), dport(41, 48), proto(1, 1)), []api.Box{
			with(a, src(10, 10)), with(a, src(19, 19)),
			with(a, src(11, 18), dst(20, 20)), with(a, src(11, 18), dst(29, 29)),
			with(a, src(11, 18), dst(21, 28), sport(30, 30)), with(a, src(11, 18), dst(21, 28), sport(39, 39)),
			with(a, src(11, 18), dst(21, 28), sport(31, 38), dport(40, 40)), with(a, src(11, 18), dst(21, 28), sport(31, 38), dport(49, 49)),
			with(a, src(11, 18), dst(21, 28), sport(31, 38), dport(41, 48), proto(0, 0xff)),
		}},
		{"every other", with(whole, src(15, 30), dst(0, 40), sport(0, 31), dport(0, 60), proto(1, 1)), []api.Box{
			with(a, src(10, 14)),
			with(a, src(15, 19), sport(32, 39)),
			with(a, src(15, 19), sport(30, 31), proto(0, 0xff)),
		}},
		{"nothing in common", with(a, src(0, 9)), []api.Box{a}},
		{"nothing in common but four fields", with(whole, src(11, 18), dst(21, 28), sport(31, 38), dport(50, 60)), []api.Box{a}},
		{"nothing in common by the mask", with(whole, src(11, 18), proto(2, 2)), []api.Box{a}},
	} {
		if got := box.Less(a, c.b); !slices.Equal(got, c.want) {
			t.Errorf("Less, %s: %v, want %v", c.name, got, c.want)
		}
	}
}

func TestLessAtTheGreatest(t *testing.T) {
	for _, c := range []struct {
		b    api.Box
		want []api.Box
	}{
		{with(whole, src(0, 0)), []api.Box{with(whole, src(1, lastAddr))}},
		{with(whole, src(lastAddr, lastAddr)), []api.Box{with(whole, src(0, lastAddr-1))}},
		{with(whole, dst(1, lastAddr)), []api.Box{with(whole, dst(0, 0))}},
		{with(whole, dst(0, lastAddr-1)), []api.Box{with(whole, dst(lastAddr, lastAddr))}},
		{with(whole, sport(0, 0)), []api.Box{with(whole, sport(1, lastPort))}},
		{with(whole, sport(lastPort, lastPort)), []api.Box{with(whole, sport(0, lastPort-1))}},
		{with(whole, dport(1, lastPort)), []api.Box{with(whole, dport(0, 0))}},
		{with(whole, dport(0, lastPort-1)), []api.Box{with(whole, dport(lastPort, lastPort))}},
		{whole, nil},
	} {
		if got := box.Less(whole, c.b); !slices.Equal(got, c.want) {
			t.Errorf("Less(whole, %v) = %v, want %v", c.b, got, c.want)
		}
		if got := box.Less(c.b, whole); len(got) != 0 {
			t.Errorf("Less(%v, whole) = %v", c.b, got)
		}
	}
	if got := box.Less(whole, point(web)); len(got) != 16 || !slices.Equal(got, less(whole, point(web))) {
		t.Errorf("Less of the whole and a header: %v", got)
	}
}

func TestLessOfWrong(t *testing.T) {
	for _, c := range wrong {
		for _, b := range []api.Box{whole, middle, {}, c.b, wrong[0].b, wrong[7].b, wrong[10].b} {
			if got := box.Less(c.b, b); len(got) != 0 {
				t.Errorf("Less(%v, %v) = %v", c.b, b, got)
			}
			if got := box.Less(b, c.b); len(got) != 0 {
				t.Errorf("Less(%v, %v) = %v", b, c.b, got)
			}
		}
	}
}

// What was told ahead stays so, whatever is called later or written into what was told.
func TestLessIsNewMemory(t *testing.T) {
	for _, b := range []api.Box{middle, with(whole, proto(6, 255)), with(whole, src(5, 5)), {}} {
		first, second := box.Less(whole, b), box.Less(whole, b)
		kept := slices.Clone(first)
		box.Less(middle, point(web))
		box.Less(whole, with(whole, dport(80, 80)))
		if !slices.Equal(first, kept) {
			t.Errorf("a later call changed what was told: %v, was %v", first, kept)
		}
		spare := first[:cap(first)]
		for i := range spare {
			spare[i] = api.Box{Src: api.Run{Lo: 9, Hi: 9}}
		}
		if third := box.Less(whole, b); !slices.Equal(second, kept) || !slices.Equal(third, kept) {
			t.Errorf("what a caller wrote changed %v into %v, and %v", kept, second, third)
		}
	}
	apart := box.Less(middle, api.Box{})
	apart[0] = whole
	if again := box.Less(middle, api.Box{}); !slices.Equal(again, []api.Box{middle}) {
		t.Errorf("Less of two that share nothing = %v", again)
	}
}

// P7.5

func TestLessAndMeetMakeUpTheBox(t *testing.T) {
	draw := drawer(29)
	for _, p := range pairs() {
		a, b := p[0], p[1]
		parts := box.Less(a, b)
		if both, ok := box.Meet(a, b); ok {
			parts = append(parts, both)
		}
		total := new(big.Int)
		for _, part := range parts {
			if box.Check(part) != api.OK {
				t.Errorf("Less(%v, %v) tells %v", a, b, part)
			}
			total.Add(total, told(part))
		}
		if total.Cmp(told(a)) != 0 {
			t.Errorf("Less and Meet of %v and %v have %v headers, a %v", a, b, total, told(a))
		}
		for _, h := range append(headersAt(draw, 10, a, b), inside(a, draw), inside(a, draw), inside(b, draw)) {
			in := 0
			for _, part := range parts {
				if box.Has(part, h) {
					in++
				}
			}
			if want := box.Has(a, h); in > 1 || (in == 1) != want {
				t.Errorf("%v is in %d of the parts of %v without %v", h, in, a, b)
			}
		}
	}
}

func TestLessHasNothingOfTheOther(t *testing.T) {
	for _, p := range pairs() {
		parts := box.Less(p[0], p[1])
		for i, part := range parts {
			if !within(part, p[0]) || share(part, p[1]) {
				t.Errorf("Less(%v, %v) tells %v", p[0], p[1], part)
			}
			for _, other := range parts[:i] {
				if share(part, other) {
					t.Errorf("Less(%v, %v): %v and %v share a header", p[0], p[1], other, part)
				}
			}
		}
		if (len(parts) == 0) != box.Within(p[0], p[1]) {
			t.Errorf("Less(%v, %v) = %v", p[0], p[1], parts)
		}
	}
}

func TestExamples(t *testing.T) {
	w := box.Whole()
	for _, c := range []struct {
		b    api.Box
		want api.Errno
	}{
		{w, api.OK},
		{with(w, src(2, 1)), api.ErrBoxRun},
		{with(w, dst(2, 1), sport(2, 1)), api.ErrBoxRun},
		{with(w, proto(1, 0)), api.ErrMaskBits},
	} {
		if err := box.Check(c.b); err != c.want {
			t.Errorf("Check(%v) = %d, want %d", c.b, err, c.want)
		}
	}
	if high, low := box.Count(w); high != 1099511627776 || low != 0 {
		t.Errorf("Count(Whole()) = %d, %d", high, low)
	}
	if h, err := box.First(w); h != (api.Header{}) || err != api.OK {
		t.Errorf("First(Whole()) = %v, %d", h, err)
	}
	if got := box.Less(w, with(w, dport(80, 80))); !slices.Equal(got, []api.Box{with(w, dport(0, 79)), with(w, dport(81, 65535))}) {
		t.Errorf("Less without Dport 80 = %v", got)
	}
	got := box.Less(w, with(w, proto(6, 255)))
	if len(got) != 8 || got[0] != with(w, proto(128, 128)) || got[7] != with(w, proto(7, 255)) {
		t.Errorf("Less without Proto 6 = %v", got)
	}
	if both, ok := box.Meet(with(w, sport(0, 9)), with(w, sport(5, 20))); both != with(w, sport(5, 9)) || !ok {
		t.Errorf("Meet of Sport 0 to 9 and 5 to 20 = %v, %v", both, ok)
	}
}
