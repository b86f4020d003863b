package study_test

import (
	"math"
	"slices"
	"sync"
	"testing"

	"quintet/api"
	"quintet/box"
	"quintet/header"
	"quintet/rule"
	"quintet/study"
	"quintet/table"
)

const (
	lastAddr = math.MaxUint32
	lastPort = math.MaxUint16
)

var actions = []api.Action{api.Deny, api.Permit, api.Log, api.Queue}

// every is the rule of all headers, written out.
func every(id int, a api.Action) api.Rule {
	return api.Rule{
		Id: id, Src: api.Prefix{Addr: 0, Len: 0}, Dst: api.Prefix{Addr: 0, Len: 0},
		Sport: api.Span{Lo: 0, Hi: lastPort}, Dport: api.Span{Lo: 0, Hi: lastPort},
		Proto: api.Mask{Value: 0, Care: 0}, Action: a,
	}
}

// with is the rule of all headers with some of its fields changed; its action follows from its Id.
func with(id int, changes ...func(*api.Rule)) api.Rule {
	r := every(id, api.Action(1+id%4))
	for _, change := range changes {
		change(&r)
	}
	return r
}

func src(addr uint32, n int) func(*api.Rule) {
	return func(r *api.Rule) { r.Src = pre(addr, n) }
}

func dst(addr uint32, n int) func(*api.Rule) {
	return func(r *api.Rule) { r.Dst = pre(addr, n) }
}

func sport(lo, hi uint16) func(*api.Rule) {
	return func(r *api.Rule) { r.Sport = api.Span{Lo: lo, Hi: hi} }
}

func dport(lo, hi uint16) func(*api.Rule) {
	return func(r *api.Rule) { r.Dport = api.Span{Lo: lo, Hi: hi} }
}

func proto(value, care uint8) func(*api.Rule) {
	return func(r *api.Rule) { r.Proto = api.Mask{Value: value, Care: care} }
}

func action(a api.Action) func(*api.Rule) {
	return func(r *api.Rule) { r.Action = a }
}

// pre is the prefix of so many bits of an address.
func pre(addr uint32, n int) api.Prefix {
	return api.Prefix{Addr: uint32(uint64(addr) >> (32 - n) << (32 - n)), Len: n}
}

func addr(a, b, c, d uint32) uint32 { return a<<24 | b<<16 | c<<8 | d }

// chapter is the rules A, B, C and D of the chapter's examples.
func chapter() []api.Rule {
	return []api.Rule{
		with(1, dport(80, 81), proto(6, 255), action(api.Permit)), with(2, dport(80, 90), action(api.Deny)),
		with(3, dport(85, 85), proto(17, 255), action(api.Permit)), with(4, action(api.Log)),
	}
}

// without is a list without one of its rules, more one with another rule there.

func without(l []api.Rule, place int) []api.Rule {
	return slices.Delete(slices.Clone(l), place, place+1)
}

func more(l []api.Rule, place int, r api.Rule) []api.Rule {
	return slices.Insert(slices.Clone(l), place, r)
}

// rest is a list without the rules at these places.
func rest(l []api.Rule, places []int) []api.Rule {
	var list []api.Rule
	for i, r := range l {
		if !slices.Contains(places, i) {
			list = append(list, r)
		}
	}
	return list
}

// What is asked, held against what is wanted.

func sameCells(t *testing.T, what string, l []api.Rule, want int, wantErr api.Errno) {
	t.Helper()
	if got, err := study.Cells(l); got != want || err != wantErr {
		t.Errorf("%s: Cells(%v) = %d, %d, wanted %d, %d", what, l, got, err, want, wantErr)
	}
}

// sameShadows asks Shadows, and Shadowed of each place.
func sameShadows(t *testing.T, what string, l []api.Rule, want ...int) {
	t.Helper()
	if got, err := study.Shadows(l); !slices.Equal(got, want) || err != api.OK {
		t.Errorf("%s: Shadows(%v) = %v, %d, wanted %v", what, l, got, err, want)
	}
	for place := range l {
		if got, err := study.Shadowed(l, place); got != slices.Contains(want, place) || err != api.OK {
			t.Errorf("%s: Shadowed(%v, %d) = %v, %d", what, l, place, got, err)
		}
	}
}

func sameWitness(t *testing.T, what string, l []api.Rule, place int, want api.Header) {
	t.Helper()
	if got, ok, err := study.Witness(l, place); got != want || !ok || err != api.OK {
		t.Errorf("%s: Witness(%v, %d) = %+v, %v, %d, wanted %+v", what, l, place, got, ok, err, want)
	}
}

func noWitness(t *testing.T, what string, l []api.Rule, place int, want api.Errno) {
	t.Helper()
	if got, ok, err := study.Witness(l, place); got != (api.Header{}) || ok || err != want {
		t.Errorf("%s: Witness(%v, %d) = %+v, %v, %d, wanted none and %d", what, l, place, got, ok, err, want)
	}
}

// differs asks Differ in both orders.
func differs(t *testing.T, what string, l, m []api.Rule, a api.Action, want api.Header) {
	t.Helper()
	for _, pair := range [][2][]api.Rule{{l, m}, {m, l}} {
		if got, ok, err := study.Differ(pair[0], pair[1], a); got != want || !ok || err != api.OK {
			t.Errorf("%s: Differ(%v, %v, %d) = %+v, %v, %d, wanted %+v", what, pair[0], pair[1], a, got, ok, err, want)
		}
	}
}

func alike(t *testing.T, what string, l, m []api.Rule, a api.Action) {
	t.Helper()
	for _, pair := range [][2][]api.Rule{{l, m}, {m, l}} {
		if got, ok, err := study.Differ(pair[0], pair[1], a); got != (api.Header{}) || ok || err != api.OK {
			t.Errorf("%s: Differ(%v, %v, %d) = %+v, %v, %d, wanted none", what, pair[0], pair[1], a, got, ok, err)
		}
	}
}

func notDiffered(t *testing.T, what string, l, m []api.Rule, a api.Action, want api.Errno) {
	t.Helper()
	if got, ok, err := study.Differ(l, m, a); got != (api.Header{}) || ok || err != want {
		t.Errorf("%s: Differ of %d and %d rules, %d = %+v, %v, %d, wanted %d", what, len(l), len(m), a, got, ok, err, want)
	}
}

// refused asks all that asks of one list.
func refused(t *testing.T, what string, l []api.Rule, want api.Errno) {
	t.Helper()
	sameCells(t, what, l, 0, want)
	if got, err := study.Shadows(l); len(got) != 0 || err != want {
		t.Errorf("%s: Shadows = %v, %d, wanted %d", what, got, err, want)
	}
	for _, place := range []int{0, len(l) - 1, -1, len(l), math.MinInt, math.MaxInt} {
		if got, err := study.Shadowed(l, place); got || err != want {
			t.Errorf("%s: Shadowed at %d = %v, %d, wanted %d", what, place, got, err, want)
		}
		noWitness(t, what, l, place, want)
	}
}

// The models.

// begins says by division whether an address is in a prefix that may be.
func begins(p api.Prefix, addr uint32) bool {
	n := uint64(1) << (32 - p.Len)
	return uint64(p.Addr)/n == uint64(addr)/n
}

// matches is DOC.md's word, of a rule that may be.
func matches(r api.Rule, h api.Header) bool {
	return begins(r.Src, h.Src) && begins(r.Dst, h.Dst) &&
		r.Sport.Lo <= h.Sport && h.Sport <= r.Sport.Hi && r.Dport.Lo <= h.Dport && h.Dport <= r.Dport.Hi &&
		(h.Proto^r.Proto.Value)&r.Proto.Care == 0
}

// first is the place of the first match; -1, if there is none.
func first(l []api.Rule, h api.Header) int {
	return slices.IndexFunc(l, func(r api.Rule) bool { return matches(r, h) })
}

// decides is the action that a list decides.
func decides(l []api.Rule, other api.Action, h api.Header) api.Action {
	if place := first(l, h); place >= 0 {
		return l[place].Action
	}
	return other
}

// ranges is the four fields of a rule of addresses and ports, each from .. to, and how great it may be.
func ranges(r api.Rule) [4][3]uint64 {
	last := func(p api.Prefix) uint64 { return uint64(p.Addr) + 1<<(32-p.Len) - 1 }
	return [4][3]uint64{
		{uint64(r.Src.Addr), last(r.Src), lastAddr}, {uint64(r.Dst.Addr), last(r.Dst), lastAddr},
		{uint64(r.Sport.Lo), uint64(r.Sport.Hi), lastPort}, {uint64(r.Dport.Lo), uint64(r.Dport.Hi), lastPort},
	}
}

// cellsOf is the model's Cells, of rules that may be, however many cells there are: the classes' beginnings stand in a map, those of the protocols are told apart by a text.
func cellsOf(l []api.Rule) uint64 {
	var starts [4]map[uint64]int
	for i := range starts {
		starts[i] = map[uint64]int{0: 1}
	}
	for _, r := range l {
		for i, f := range ranges(r) {
			starts[i][f[0]]++
			if f[1] != f[2] {
				starts[i][f[1]+1]++
			}
		}
	}
	protos := map[string]int{}
	for p := range 256 {
		text := make([]byte, len(l))
		for i, r := range l {
			if (uint8(p)^r.Proto.Value)&r.Proto.Care == 0 {
				text[i] = 1
			}
		}
		protos[string(text)]++
	}
	n := uint64(len(protos))
	for i := range starts {
		n *= uint64(len(starts[i]))
	}
	return n
}

// pieces is what each rule decides, and last what none does, as boxes: what is left of each when those ahead are taken out.
func pieces(l []api.Rule) [][]api.Box {
	left := []api.Box{box.Whole()}
	var list [][]api.Box
	for _, r := range l {
		b, _ := rule.Box(r)
		var mine, behind []api.Box
		for _, a := range left {
			if both, ok := box.Meet(a, b); ok {
				mine = append(mine, both)
			}
			behind = append(behind, box.Less(a, b)...)
		}
		list, left = append(list, mine), behind
	}
	return append(list, left)
}

// least is the least header that one of the boxes holds.
func least(boxes []api.Box) (api.Header, bool) {
	found, ok := api.Header{}, false
	for _, b := range boxes {
		h, err := box.First(b)
		if err == api.OK && (!ok || header.Compare(h, found) < 0) {
			found, ok = h, true
		}
	}
	return found, ok
}

// apart is the model's Differ: what one list's rule decides and the other's as well, where their actions are unlike.
func apart(l, m []api.Rule, a api.Action) (api.Header, bool) {
	act := func(l []api.Rule, place int) api.Action { return append(slices.Clone(l), every(1, a))[place].Action }
	var unlike []api.Box
	for i, ours := range pieces(l) {
		for j, theirs := range pieces(m) {
			if act(l, i) == act(m, j) {
				continue
			}
			for _, x := range ours {
				for _, y := range theirs {
					if both, ok := box.Meet(x, y); ok {
						unlike = append(unlike, both)
					}
				}
			}
		}
	}
	return least(unlike)
}

// Rules and headers that are drawn.

// drawer gives numbers by a rule that goes all about, the same each time.
func drawer(state uint64) func(n int) int {
	return func(n int) int {
		state = state*6364136223846793005 + 1442695040888963407
		return int(state >> 33 % uint64(n))
	}
}

// drawPrefix cuts one of few addresses, so that many of the prefixes lie within one another; /0 and /32 are frequent.
func drawPrefix(draw func(int) int) api.Prefix {
	at := []uint32{addr(10, 1, 2, 3), addr(10, 1, 2, 2), addr(138, 200, 0, 1), 0, lastAddr, 1 << 31}[draw(6)]
	return pre(at, []int{0, 1, 32, 8, 31, 2, draw(33)}[draw(7)])
}

// drawSpan has few ends, so that many are alike, lie within one another, or beside one another.
func drawSpan(draw func(int) int) api.Span {
	ends := []uint16{0, 1, 79, 80, 81, 1023, 1024, lastPort - 1, lastPort}
	a, b := ends[draw(len(ends))], ends[draw(len(ends))]
	return api.Span{Lo: min(a, b), Hi: max(a, b)}
}

func drawMask(draw func(int) int) api.Mask {
	care := uint8(draw(256))
	some := api.Mask{Value: uint8(draw(256)) & care, Care: care}
	return []api.Mask{{}, {Value: 6, Care: 255}, {Value: 1, Care: 1}, {Care: 1}, {Care: 0x80}, {Value: 0x81, Care: 0x81}, {Value: 255, Care: 255}, some}[draw(8)]
}

// drawRules are n rules that may be, the Ids from 1 on, of which some fields alone, as the bits of which tell, are unlike all.
func drawRules(draw func(int) int, n, which int) []api.Rule {
	l := make([]api.Rule, n)
	for i := range l {
		p, q, s, d, m := drawPrefix(draw), drawPrefix(draw), drawSpan(draw), drawSpan(draw), drawMask(draw)
		l[i] = every(i+1, api.Action(1+draw(4)))
		for j, set := range []func(){func() { l[i].Src = p }, func() { l[i].Dst = q }, func() { l[i].Sport = s }, func() { l[i].Dport = d }, func() { l[i].Proto = m }} {
			if which>>j&1 == 1 && draw(4) > 0 {
				set()
			}
		}
	}
	return l
}

// drawCoarse are n rules that may be, the Ids from 1 on, of which one or two fields are halves and quarters of all, so that some together have what none has alone.
func drawCoarse(draw func(int) int, n int) []api.Rule {
	l := make([]api.Rule, n)
	one, other := draw(5), draw(5)
	for i := range l {
		l[i] = every(i+1, api.Action(1+draw(4)))
		for _, which := range []int{one, other} {
			bits, part := draw(3), uint32(draw(4))
			span := api.Span{Lo: uint16(part << 14), Hi: uint16((part+uint32(draw(int(4-part)))+1)<<14 - 1)}
			switch which {
			case 0:
				l[i].Src = pre(part<<30, bits)
			case 1:
				l[i].Dst = pre(part<<30, bits)
			case 2:
				l[i].Sport = span
			case 3:
				l[i].Dport = span
			default:
				care := uint8(draw(4)) << 3
				l[i].Proto = api.Mask{Value: uint8(part) << 3 & care, Care: care}
			}
		}
	}
	return l
}

// lists are lists of rules that may be with no more than 65536 cells: of each set of fields some, short and longer ones.
func lists(state uint64, longest int) [][]api.Rule {
	draw := drawer(state)
	all := [][]api.Rule{nil, {}, {every(1, api.Deny)}, {every(api.MaxId, api.Queue), every(1, api.Log)}, chapter()}
	for which := range 32 {
		for i := range 12 {
			l := drawRules(draw, 1+draw(2+longest*i/12), which)
			if cellsOf(l) <= api.MaxCells {
				all = append(all, l, drawCoarse(draw, 1+draw(longest)))
			}
		}
	}
	return all
}

// near are n headers, drawn from where the rules' fields begin and end, and from beside that; mostly of two rules.
func near(draw func(int) int, l []api.Rule, n int) []api.Header {
	l = append([]api.Rule{every(1, api.Deny)}, l...)
	heads := make([]api.Header, n)
	for i := range heads {
		a, b := l[draw(len(l))], l[draw(len(l))]
		if draw(3) == 0 {
			b = a
		}
		x, y := ranges(a), ranges(b)
		at := func(f [3]uint64) uint64 { return []uint64{f[0], f[1], f[0] - 1, f[1] + 1}[draw(10)%4] }
		heads[i] = api.Header{
			Src: uint32(at(x[0])), Dst: uint32(at(y[1])), Sport: uint16(at(x[2])), Dport: uint16(at(y[3])),
			Proto: []uint8{a.Proto.Value, b.Proto.Value, a.Proto.Value | ^a.Proto.Care, ^a.Proto.Value}[draw(4)],
		}
	}
	return heads
}

// parted are as many rules as are needed, no two of one Id, that part their fields into so many classes: by single numbers beyond one another, and by one that goes up to the greatest; the protocols by single ones too, from 9 to 256 a power of two by single bits.
func parted(from int, counts ...int) []api.Rule {
	n := 1
	for _, c := range counts[:4] {
		n = max(n, c/2)
	}
	bit := 0
	for 1<<bit < counts[4] {
		bit++
	}
	n = max(n, bit)
	if counts[4] < 9 {
		n = max(n, counts[4]-1)
	}
	l := make([]api.Rule, n)
	for i := range l {
		l[i] = every(from+i, api.Action(1+i%4))
		at := uint32(2*i + 1)
		part := func(c int, single, last func(*api.Rule)) {
			switch {
			case 2*i+2 < c:
				single(&l[i])
			case 2*i+2 == c:
				last(&l[i])
			}
		}
		part(counts[0], src(at, 32), src(lastAddr, 32))
		part(counts[1], dst(at, 32), dst(lastAddr, 32))
		part(counts[2], sport(uint16(at), uint16(at)), sport(lastPort, lastPort))
		part(counts[3], dport(uint16(at), uint16(at)), dport(lastPort, lastPort))
		if counts[4] < 9 && i+1 < counts[4] {
			l[i].Proto = api.Mask{Value: uint8(i), Care: 255}
		} else if counts[4] >= 9 && i < bit {
			l[i].Proto = api.Mask{Value: 1 << i, Care: 1 << i}
		}
	}
	return l
}

func product(counts []int) int {
	n := 1
	for _, c := range counts {
		n *= c
	}
	return n
}

// P20.1

func TestCellsByHand(t *testing.T) {
	for _, c := range []struct {
		name string
		l    []api.Rule
		want int
	}{
		{"none", nil, 1},
		{"none, but a list", []api.Rule{}, 1},
		{"all headers", []api.Rule{every(1, api.Log)}, 1},
		{"all headers, twice", []api.Rule{every(1, api.Log), every(2, api.Deny)}, 1},
		{"a prefix amid", []api.Rule{with(1, src(addr(10, 0, 0, 0), 8))}, 3},
		{"a prefix at the front", []api.Rule{with(1, src(0, 8))}, 2},
		{"a prefix at the end", []api.Rule{with(1, src(lastAddr, 8))}, 2},
		{"the first address", []api.Rule{with(1, dst(0, 32))}, 2},
		{"the last address", []api.Rule{with(1, dst(lastAddr, 32))}, 2},
		{"an address amid", []api.Rule{with(1, dst(7, 32))}, 3},
		{"both halves", []api.Rule{with(1, src(0, 1)), with(2, src(1<<31, 1))}, 2},
		{"one half", []api.Rule{with(1, src(1<<31, 1))}, 2},
		{"a half and a quarter", []api.Rule{with(1, src(0, 1)), with(2, src(1<<30, 2))}, 3},
		{"ports amid", []api.Rule{with(1, sport(80, 90))}, 3},
		{"the port 0", []api.Rule{with(1, sport(0, 0))}, 2},
		{"the port 65535", []api.Rule{with(1, dport(lastPort, lastPort))}, 2},
		{"ports up to the last but one", []api.Rule{with(1, dport(1, lastPort-1))}, 3},
		{"the first and the last port", []api.Rule{with(1, sport(0, 0)), with(2, sport(lastPort, lastPort))}, 3},
		{"ports beside one another", []api.Rule{with(1, dport(80, 84)), with(2, dport(85, 90))}, 4},
		{"ports with one between", []api.Rule{with(1, dport(80, 84)), with(2, dport(86, 90))}, 5},
		{"ports that overlap", []api.Rule{with(1, dport(80, 85)), with(2, dport(85, 90))}, 5},
		{"ports alike", []api.Rule{with(1, dport(80, 85)), with(2, dport(80, 85))}, 3},
		{"ports with one beginning", []api.Rule{with(1, dport(80, 85)), with(2, dport(80, 90))}, 4},
		{"ports with one end", []api.Rule{with(1, dport(80, 90)), with(2, dport(85, 90))}, 4},
		{"one protocol", []api.Rule{with(1, proto(6, 255))}, 2},
		{"a bit of the protocol", []api.Rule{with(1, proto(1, 1))}, 2},
		{"a bit of the protocol, both ways", []api.Rule{with(1, proto(1, 1)), with(2, proto(0, 1))}, 2},
		{"two bits of the protocol", []api.Rule{with(1, proto(1, 1)), with(2, proto(128, 128))}, 4},
		{"two bits in one mask", []api.Rule{with(1, proto(0x81, 0x81))}, 2},
		{"a protocol within a mask", []api.Rule{with(1, proto(0, 1)), with(2, proto(6, 255))}, 3},
		{"a protocol beside a mask", []api.Rule{with(1, proto(0, 1)), with(2, proto(7, 255))}, 3},
		{"a mask and the protocol without", []api.Rule{with(1, proto(0, 128)), with(2, proto(1, 1)), with(3, proto(4, 4)), with(4, proto(4, 7))}, 10},
		{"all five", []api.Rule{with(1, src(1, 32), dst(1<<31, 1), sport(0, 9), dport(7, 9), proto(6, 255))}, 3 * 2 * 2 * 3 * 2},
		{"each of another one", []api.Rule{with(1, src(1, 32)), with(2, dst(1<<31, 1)), with(3, sport(0, 9)), with(4, dport(7, 9)), with(5, proto(6, 255))}, 3 * 2 * 2 * 3 * 2},
		{"the sources are not the destinations", []api.Rule{with(1, src(7, 32)), with(2, dst(7, 32))}, 9},
		{"the source ports are not the others", []api.Rule{with(1, sport(7, 7)), with(2, dport(7, 7))}, 9},
	} {
		sameCells(t, c.name, c.l, c.want, api.OK)
	}
}

func TestCells(t *testing.T) {
	draw := drawer(1)
	fit, many := 0, 0
	for which := range 32 {
		for n := range 32 {
			l := drawRules(draw, 2*n, which)
			if want := cellsOf(l); want <= api.MaxCells {
				fit++
				sameCells(t, "drawn", l, int(want), api.OK)
			} else {
				many++
				sameCells(t, "drawn", l, 0, api.ErrStudyMany)
			}
		}
	}
	if fit < 500 || many < 40 {
		t.Errorf("%d lists fit, %d do not", fit, many)
	}
}

// Cells do not hang on the order of the rules, nor on Ids and actions.
func TestCellsHangOnFieldsAlone(t *testing.T) {
	for _, l := range lists(2, 20) {
		want, _ := study.Cells(l)
		other := slices.Clone(l)
		slices.Reverse(other)
		for i := range other {
			other[i].Id, other[i].Action = api.MaxId-i, api.Queue
		}
		sameCells(t, "turned about", other, want, api.OK)
	}
}

// atTheEdge are numbers of classes whose product is 65536 or little else.
var atTheEdge = [][]int{
	{16, 16, 16, 16, 1}, {1, 128, 128, 2, 2}, {2, 2, 128, 128, 1}, {128, 1, 1, 2, 256}, {64, 64, 1, 1, 16}, {1, 1, 128, 128, 4}, {4, 8, 8, 8, 32}, {8, 8, 8, 8, 16},
	{127, 43, 12, 1, 1}, {1, 12, 127, 43, 1}, {113, 29, 20, 1, 1}, {1, 20, 29, 113, 1}, {29, 1, 113, 4, 5}, {129, 127, 4, 1, 1}, {129, 129, 1, 1, 4}, {1, 1, 129, 128, 4},
	{2, 1, 1, 128, 256}, {1, 2, 1, 129, 256}, {17, 16, 16, 16, 1}, {16, 16, 16, 17, 1}, {16, 15, 16, 17, 1}, {16, 16, 17, 15, 1},
}

func TestCellsAtTheEdge(t *testing.T) {
	just, above := 0, math.MaxInt
	for _, counts := range atTheEdge {
		l := parted(1, counts...)
		n := product(counts)
		if len(l) > api.MaxRules || cellsOf(l) != uint64(n) {
			t.Fatalf("%v: %d rules, %d cells", counts, len(l), cellsOf(l))
		}
		if n <= api.MaxCells {
			just = max(just, n)
			sameCells(t, "at the edge", l, n, api.OK)
			sameShadows(t, "at the edge", l[:0])
			if _, err := study.Shadows(l); err != api.OK {
				t.Errorf("Shadows of %d cells: %d", n, err)
			}
		} else {
			above = min(above, n)
			refused(t, "above the edge", l, api.ErrStudyMany)
		}
	}
	if just != 65536 || above != 65540 {
		t.Errorf("the greatest that fits is %d, the least that does not %d", just, above)
	}
}

// So many that their number has no room in 32 bits, and one whose number ends with noughts.
func TestCellsFarAboveTheEdge(t *testing.T) {
	for _, counts := range [][]int{{129, 129, 129, 129, 256}, {128, 128, 128, 128, 16}, {128, 128, 128, 128, 256}, {64, 64, 64, 128, 128}, {129, 129, 4, 1, 1}} {
		l := parted(1, counts...)
		if cellsOf(l) != uint64(product(counts)) {
			t.Fatalf("%v: %d", counts, cellsOf(l))
		}
		refused(t, "far above the edge", l, api.ErrStudyMany)
	}
}

// Errors of lists.

// wrongRule is a rule that may not be, and why.
type wrongRule struct {
	r    api.Rule
	want api.Errno
}

// wrongRules are rules of that Id that may not be, one field each.
func wrongRules(id int) []wrongRule {
	return []wrongRule{
		{api.Rule{}, api.ErrRuleId},
		{with(0), api.ErrRuleId},
		{every(-5, api.Log), api.ErrRuleId},
		{with(api.MaxId + 1), api.ErrRuleId},
		{with(0, sport(2, 1)), api.ErrRuleId},
		{with(id, func(r *api.Rule) { r.Src.Len = 33 }), api.ErrPrefixLen},
		{with(id, func(r *api.Rule) { r.Src.Len = math.MinInt }), api.ErrPrefixLen},
		{with(id, func(r *api.Rule) { r.Dst.Len = -1 }), api.ErrPrefixLen},
		{with(id, func(r *api.Rule) { r.Src = api.Prefix{Addr: 1, Len: 31} }), api.ErrPrefixBits},
		{with(id, func(r *api.Rule) { r.Dst = api.Prefix{Addr: 1 << 31} }), api.ErrPrefixBits},
		{with(id, sport(2, 1)), api.ErrSpanEnds},
		{with(id, dport(lastPort, 0)), api.ErrSpanEnds},
		{with(id, proto(2, 1)), api.ErrMaskBits},
		{with(id, action(0)), api.ErrRuleAction},
		{with(id, action(5)), api.ErrRuleAction},
		{with(id, action(-1)), api.ErrRuleAction},
	}
}

// some are n rules that may be, the Ids from 1 on, with few cells.
func some(n int) []api.Rule {
	l := make([]api.Rule, n)
	for i := range l {
		l[i] = with(i+1, src(uint32(i)<<24, 8))
	}
	return l
}

// wrongLists are lists that may not be, and why.
func wrongLists() []struct {
	name string
	l    []api.Rule
	want api.Errno
} {
	type wrong = struct {
		name string
		l    []api.Rule
		want api.Errno
	}
	l := some(8)
	var list []wrong
	for _, w := range wrongRules(99) {
		list = append(list, wrong{"a wrong rule alone", []api.Rule{w.r}, w.want})
		for place := range len(l) + 1 {
			list = append(list, wrong{"a wrong rule", more(l, place, w.r), w.want})
		}
		list = append(list,
			wrong{"a wrong rule ahead of a double one", append(more(l, 3, w.r), l[0]), w.want},
			wrong{"a wrong rule as the 65th", append(some(64), w.r), w.want},
			wrong{"a wrong rule as the 66th", append(some(65), w.r), api.ErrTableFull},
			wrong{"a wrong rule behind a double one", append(slices.Clone(l), l[7], w.r), api.ErrTableTwice},
			wrong{"a wrong rule behind another one", append(slices.Clone(l), with(98, sport(9, 8)), w.r), api.ErrSpanEnds},
			wrong{"a wrong rule with too many cells", append(parted(1000, 129, 129, 129, 129, 256)[:63], w.r), w.want})
	}
	return append(list,
		wrong{"a rule twice", []api.Rule{l[0], l[0]}, api.ErrTableTwice},
		wrong{"an Id twice", []api.Rule{l[0], l[1], with(1, dport(80, 80))}, api.ErrTableTwice},
		wrong{"an Id twice, at the front and the end", append(some(63), with(1)), api.ErrTableTwice},
		wrong{"an Id twice, as the 65th", append(some(64), l[0]), api.ErrTableTwice},
		wrong{"an Id twice, as the 66th", append(some(65), l[0]), api.ErrTableFull},
		wrong{"an Id twice with too many cells", append(parted(1, 129, 129, 129, 129, 256)[:63], with(1)), api.ErrTableTwice},
		wrong{"65", some(65), api.ErrTableFull},
		wrong{"65 with too many cells", append(parted(1, 129, 129, 129, 129, 256), with(1000)), api.ErrTableFull},
		wrong{"very many", some(100000), api.ErrTableFull},
	)
}

func TestListsThatMayNotBe(t *testing.T) {
	for _, c := range wrongLists() {
		if len(c.l) > 1000 {
			if n, err := study.Cells(c.l); n != 0 || err != c.want {
				t.Errorf("%s: Cells = %d, %d", c.name, n, err)
			}
			continue
		}
		refused(t, c.name, c.l, c.want)
	}
}

// The chapter: a list's error is table.Set's, with Max 64.
func TestErrorsAreThoseOfATable(t *testing.T) {
	for _, c := range wrongLists() {
		x, err := table.New(api.Config{Max: api.MaxRules, Default: api.Deny, Binth: 1})
		if err != api.OK {
			t.Fatal(err)
		}
		if err := x.Set(c.l); err != c.want {
			t.Errorf("%s: Set says %d, wanted %d", c.name, err, c.want)
		}
	}
}

func TestTheLongestList(t *testing.T) {
	l := some(64)
	sameCells(t, "64 rules", l, 65, api.OK)
	sameShadows(t, "64 rules", l)
	for place, r := range l {
		sameWitness(t, "64 rules", l, place, api.Header{Src: r.Src.Addr})
	}
	for i := range l {
		l[i] = every(i+1, api.Log)
	}
	var behind []int
	for place := 1; place < 64; place++ {
		behind = append(behind, place)
	}
	sameCells(t, "64 of all headers", l, 1, api.OK)
	sameShadows(t, "64 of all headers", l, behind...)
}

// P20.2

func TestShadowsByHand(t *testing.T) {
	ten := src(addr(10, 0, 0, 0), 8)
	low, high := src(addr(10, 0, 0, 0), 9), src(addr(10, 128, 0, 0), 9)
	for _, c := range []struct {
		name string
		l    []api.Rule
		want []int
	}{
		{"none", nil, nil},
		{"one", []api.Rule{with(1, ten)}, nil},
		{"the same", []api.Rule{with(1, ten), with(2, ten)}, []int{1}},
		{"the same action too", []api.Rule{with(1, ten), with(5, ten)}, []int{1}},
		{"by one that has more", []api.Rule{with(1), with(2, ten)}, []int{1}},
		{"not by one that has less", []api.Rule{with(1, ten), with(2)}, nil},
		{"not by one behind", []api.Rule{with(1, ten), with(2, ten), with(3)}, []int{1}},
		{"by two halves", []api.Rule{with(1, low), with(2, high), with(3, ten)}, []int{2}},
		{"not by one half", []api.Rule{with(1, low), with(3, ten), with(2, high)}, []int{2}},
		{"by all but one address", []api.Rule{with(1, src(0, 1)), with(2, src(1<<31, 2)), with(3)}, nil},
		{"by ports beside one another", []api.Rule{with(1, dport(0, 79)), with(2, dport(80, 80)), with(3, dport(81, lastPort)), with(4)}, []int{3}},
		{"but for one port", []api.Rule{with(1, dport(0, 79)), with(2, dport(81, lastPort)), with(3)}, nil},
		{"but for the port 0", []api.Rule{with(1, sport(1, lastPort)), with(2)}, nil},
		{"but for the port 65535", []api.Rule{with(1, sport(0, lastPort-1)), with(2)}, nil},
		{"by ports that overlap", []api.Rule{with(1, sport(0, 100)), with(2, sport(50, lastPort)), with(3, sport(20, 70)), with(4)}, []int{2, 3}},
		{"by both values of a bit", []api.Rule{with(1, proto(0, 4)), with(2, proto(4, 4)), with(3)}, []int{2}},
		{"by masks of several bits", []api.Rule{with(1, proto(0x10, 0x11)), with(2, proto(0x01, 0x01)), with(3, proto(0, 0x11)), with(4, proto(6, 255)), with(5)}, []int{3, 4}},
		{"but for one protocol", []api.Rule{with(1, proto(0, 128)), with(2, proto(128, 192)), with(3, proto(192, 224)), with(4, proto(224, 240)), with(5, proto(240, 248)), with(6, proto(248, 252)), with(7, proto(252, 254)), with(8, proto(254, 255)), with(9)}, nil},
		{"with the last protocol", []api.Rule{with(1, proto(0, 128)), with(2, proto(128, 192)), with(3, proto(192, 224)), with(4, proto(224, 240)), with(5, proto(240, 248)), with(6, proto(248, 252)), with(7, proto(252, 254)), with(8, proto(254, 255)), with(9, proto(255, 255)), with(10)}, []int{9}},
		{"by a cross of two", []api.Rule{with(1, src(0, 1)), with(2, dst(0, 1)), with(3, src(0, 2), dst(1<<31, 1)), with(4, src(1<<31, 1)), with(5)}, []int{2, 4}},
		{"not by a cross of two", []api.Rule{with(1, src(0, 1)), with(2, dst(0, 1)), with(3)}, nil},
		{"one field lies without", []api.Rule{with(1, ten, dport(80, 80)), with(2, low, dport(80, 81))}, nil},
		{"by one that is shadowed itself", []api.Rule{with(1), with(2, ten), with(3, low)}, []int{1, 2}},
		{"all behind the first", []api.Rule{with(9), with(8), with(7), with(6)}, []int{1, 2, 3}},
		{"a single header", []api.Rule{with(1, src(1, 32), dst(2, 32), sport(3, 3), dport(4, 4), proto(5, 255)), with(2, src(1, 32), dst(2, 32), sport(3, 3), dport(4, 4), proto(5, 255))}, []int{1}},
		{"another single header", []api.Rule{with(1, src(1, 32), dst(2, 32), sport(3, 3), dport(4, 4), proto(5, 255)), with(2, src(1, 32), dst(2, 32), sport(3, 3), dport(4, 4), proto(4, 255))}, nil},
	} {
		sameShadows(t, c.name, c.l, c.want...)
	}
}

// A field's part alone is left over: the rule ahead has all but that.
func TestNotShadowedForOneField(t *testing.T) {
	inner := []func(*api.Rule){src(addr(10, 0, 0, 0), 8), dst(addr(10, 0, 0, 0), 8), sport(10, 20), dport(10, 20), proto(4, 4)}
	outer := [][]func(*api.Rule){
		{src(addr(8, 0, 0, 0), 7), src(addr(10, 0, 0, 0), 7)}, {dst(addr(8, 0, 0, 0), 7), dst(addr(11, 0, 0, 0), 8)},
		{sport(9, 20), sport(10, 21)}, {dport(9, 20), dport(10, 21)}, {proto(0, 0), proto(4, 6)},
	}
	for i := range outer {
		for _, o := range outer[i] {
			less, more := slices.Clone(inner), slices.Clone(inner)
			more[i] = o
			a, b := with(1, less...), with(2, more...)
			if slices.Equal([]api.Rule{a}, []api.Rule{b}) {
				t.Fatal(a)
			}
			if rule.Within(a, b) {
				sameShadows(t, "within", []api.Rule{b, a}, 1)
				sameShadows(t, "within, ahead", []api.Rule{a, b})
			} else {
				sameShadows(t, "without", []api.Rule{a, b}, shadowsOf([]api.Rule{a, b})...)
				sameShadows(t, "without", []api.Rule{b, a}, shadowsOf([]api.Rule{b, a})...)
			}
		}
	}
}

// shadowsOf is the model's Shadows: the rules of which no piece is left.
func shadowsOf(l []api.Rule) []int {
	var places []int
	for place, boxes := range pieces(l)[:len(l)] {
		if len(boxes) == 0 {
			places = append(places, place)
		}
	}
	return places
}

func TestShadows(t *testing.T) {
	found, several := 0, 0
	for _, l := range lists(3, 14) {
		want := shadowsOf(l)
		sameShadows(t, "drawn", l, want...)
		for _, place := range want {
			found++
			if !slices.ContainsFunc(l[:place], func(r api.Rule) bool { return rule.Within(l[place], r) }) {
				several++
			}
		}
	}
	if found < 300 || several < 20 {
		t.Errorf("%d are shadowed, %d of these by several", found, several)
	}
}

func TestPlacesThatAreNot(t *testing.T) {
	for _, l := range [][]api.Rule{nil, {}, {every(1, api.Log)}, chapter(), some(64), parted(1, 16, 16, 16, 16, 1)} {
		for _, place := range []int{-1, len(l), len(l) + 1, 64, 65, -64, math.MinInt, math.MaxInt, math.MinInt32, 1 << 32} {
			if 0 <= place && place < len(l) {
				continue
			}
			if got, err := study.Shadowed(l, place); got || err != api.ErrStudyPlace {
				t.Errorf("Shadowed of %d rules at %d = %v, %d", len(l), place, got, err)
			}
			noWitness(t, "no such place", l, place, api.ErrStudyPlace)
		}
	}
}

// P20.3

func TestWitnessByHand(t *testing.T) {
	for _, c := range []struct {
		name  string
		l     []api.Rule
		place int
		want  api.Header
	}{
		{"all headers", []api.Rule{with(1)}, 0, api.Header{}},
		{"a prefix", []api.Rule{with(1, src(addr(10, 0, 0, 0), 8), dst(addr(11, 0, 0, 0), 8))}, 0, api.Header{Src: addr(10, 0, 0, 0), Dst: addr(11, 0, 0, 0)}},
		{"the greatest header alone", []api.Rule{with(1, src(lastAddr, 32), dst(lastAddr, 32), sport(lastPort, lastPort), dport(lastPort, lastPort), proto(255, 255))}, 0, api.Header{Src: lastAddr, Dst: lastAddr, Sport: lastPort, Dport: lastPort, Proto: 255}},
		{"the least header alone", []api.Rule{with(1, src(0, 32), dst(0, 32), sport(0, 0), dport(0, 0), proto(0, 255))}, 0, api.Header{}},
		{"behind the least header", []api.Rule{with(1, src(0, 32), dst(0, 32), sport(0, 0), dport(0, 0), proto(0, 255)), with(2)}, 1, api.Header{Proto: 1}},
		{"behind a protocol", []api.Rule{with(1, proto(0, 255)), with(2)}, 1, api.Header{Proto: 1}},
		{"behind a port", []api.Rule{with(1, dport(0, 0)), with(2)}, 1, api.Header{Dport: 1}},
		{"behind a source port", []api.Rule{with(1, sport(0, 9)), with(2)}, 1, api.Header{Sport: 10}},
		{"behind a destination", []api.Rule{with(1, dst(0, 32)), with(2)}, 1, api.Header{Dst: 1}},
		{"behind a source", []api.Rule{with(1, src(0, 1)), with(2)}, 1, api.Header{Src: 1 << 31}},
		{"the last port is left", []api.Rule{with(1, dport(0, lastPort-1)), with(2)}, 1, api.Header{Dport: lastPort}},
		{"the last source port is left", []api.Rule{with(1, sport(0, lastPort-1)), with(2)}, 1, api.Header{Sport: lastPort}},
		{"the later field goes first", []api.Rule{with(1, src(0, 32), dport(0, 5)), with(2)}, 1, api.Header{Dport: 6}},
		{"the later of two pieces", []api.Rule{with(1, src(0, 8)), with(2, dst(0, 8)), with(3)}, 2, api.Header{Src: 1 << 24, Dst: 1 << 24}},
		{"a mask", []api.Rule{with(1, proto(0x21, 0x31))}, 0, api.Header{Proto: 0x21}},
		{"a mask without its least", []api.Rule{with(1, proto(0x21, 255)), with(2, proto(0x21, 0x31))}, 1, api.Header{Proto: 0x23}},
		{"a mask without half of it", []api.Rule{with(1, proto(0, 2)), with(2, proto(0x21, 0x31))}, 1, api.Header{Proto: 0x23}},
		{"a mask without its lower half", []api.Rule{with(1, proto(0, 128)), with(2, proto(0x21, 0x31))}, 1, api.Header{Proto: 0xa1}},
		{"the last protocol is left", []api.Rule{with(1, proto(0, 1)), with(2, proto(1, 3)), with(3, proto(3, 7)), with(4, proto(7, 15)), with(5, proto(15, 31)), with(6, proto(31, 63)), with(7, proto(63, 127)), with(8, proto(127, 255)), with(9)}, 8, api.Header{Proto: 255}},
		{"protocols of one class", []api.Rule{with(1, proto(0, 255)), with(2, proto(1, 255)), with(3, proto(3, 255)), with(4)}, 3, api.Header{Proto: 2}},
		{"amid", []api.Rule{with(1, dport(0, 10)), with(2, dport(5, 20)), with(3)}, 1, api.Header{Dport: 11}},
		{"the rules behind change nothing", []api.Rule{with(1, dport(9, 10)), with(2, dport(0, 20)), with(3)}, 0, api.Header{Dport: 9}},
		{"a source at the end goes last", []api.Rule{with(1, dport(0, 7)), with(2, src(lastAddr, 32)), with(3, dport(8, lastPort))}, 1, api.Header{Src: lastAddr, Dport: 8}},
	} {
		sameWitness(t, c.name, c.l, c.place, c.want)
	}
}

func TestNoWitnessByHand(t *testing.T) {
	noWitness(t, "the same", []api.Rule{with(1, dport(1, 9)), with(2, dport(1, 9))}, 1, api.OK)
	noWitness(t, "two halves", []api.Rule{with(1, dst(0, 1)), with(2, dst(1<<31, 1)), with(3)}, 2, api.OK)
	noWitness(t, "masks", []api.Rule{with(1, proto(1, 3)), with(2, proto(0, 1)), with(3, proto(3, 3)), with(4, proto(6, 6))}, 3, api.OK)
	noWitness(t, "64 of all headers", some64(), 63, api.OK)
}

func some64() []api.Rule {
	l := some(64)
	for i := range l {
		l[i].Src = api.Prefix{}
	}
	return l
}

func TestWitness(t *testing.T) {
	found, none := 0, 0
	for _, l := range lists(5, 14) {
		for place, boxes := range pieces(l)[:len(l)] {
			want, ok := least(boxes)
			if ok {
				found++
				sameWitness(t, "drawn", l, place, want)
			} else {
				none++
				noWitness(t, "drawn", l, place, api.OK)
			}
		}
	}
	if found < 1000 || none < 300 {
		t.Errorf("%d have a witness, %d have none", found, none)
	}
}

// P20.4

func TestDifferByHand(t *testing.T) {
	web := dport(80, 90)
	for _, c := range []struct {
		name string
		l, m []api.Rule
		a    api.Action
		want api.Header
	}{
		{"all headers, unlike actions", []api.Rule{every(1, api.Log)}, []api.Rule{every(1, api.Deny)}, api.Deny, api.Header{}},
		{"by the default alone", []api.Rule{every(1, api.Log)}, nil, api.Deny, api.Header{}},
		{"by the default alone, of a few ports", []api.Rule{with(1, web, action(api.Deny))}, nil, api.Log, api.Header{Dport: 80}},
		{"by the default alone, beside a few ports", []api.Rule{with(1, web, action(api.Deny))}, []api.Rule{every(2, api.Deny)}, api.Log, api.Header{}},
		{"by the default alone, behind them", []api.Rule{with(1, dport(0, 90), action(api.Deny))}, []api.Rule{every(2, api.Deny)}, api.Log, api.Header{Dport: 91}},
		{"by the order", []api.Rule{with(1, web, action(api.Permit)), with(2, proto(6, 255), action(api.Deny))}, []api.Rule{with(2, proto(6, 255), action(api.Deny)), with(1, web, action(api.Permit))}, api.Log, api.Header{Dport: 80, Proto: 6}},
		{"by one header", []api.Rule{with(1, src(1, 32), dst(2, 32), sport(3, 3), dport(4, 4), proto(5, 255), action(api.Permit)), every(2, api.Deny)}, []api.Rule{every(2, api.Deny)}, api.Log, api.Header{Src: 1, Dst: 2, Sport: 3, Dport: 4, Proto: 5}},
		{"by the greatest header", []api.Rule{with(1, src(lastAddr, 32), dst(lastAddr, 32), sport(lastPort, lastPort), dport(lastPort, lastPort), proto(255, 255), action(api.Permit))}, nil, api.Queue, api.Header{Src: lastAddr, Dst: lastAddr, Sport: lastPort, Dport: lastPort, Proto: 255}},
		{"by the last port", []api.Rule{with(1, dport(0, lastPort-1), action(api.Permit))}, []api.Rule{with(1, action(api.Permit))}, api.Queue, api.Header{Dport: lastPort}},
		{"one half is missing", []api.Rule{with(1, src(0, 1), action(api.Log)), with(2, src(1<<31, 2), action(api.Log))}, []api.Rule{with(1, action(api.Log))}, api.Deny, api.Header{Src: 3 << 30}},
		{"by a mask", []api.Rule{with(1, proto(0x10, 0x11), action(api.Log))}, []api.Rule{with(1, proto(0x10, 0x10), action(api.Log))}, api.Deny, api.Header{Proto: 0x11}},
		{"the least of several", []api.Rule{with(1, src(addr(10, 0, 0, 0), 8), action(api.Log)), with(2, dst(addr(10, 0, 0, 0), 8), action(api.Log))}, nil, api.Deny, api.Header{Dst: addr(10, 0, 0, 0)}},
		{"a rule of the other list alone", []api.Rule{with(1, web, action(api.Log))}, []api.Rule{with(1, web, action(api.Log)), with(2, sport(9, 9), action(api.Queue))}, api.Deny, api.Header{Sport: 9}},
		{"the same Id says nothing", []api.Rule{with(7, web, action(api.Log))}, []api.Rule{with(7, dport(80, 91), action(api.Log))}, api.Deny, api.Header{Dport: 91}},
	} {
		differs(t, c.name, c.l, c.m, c.a, c.want)
	}
}

func TestDecideAlike(t *testing.T) {
	web := dport(80, 90)
	for _, c := range []struct {
		name string
		l, m []api.Rule
		a    api.Action
	}{
		{"none", nil, nil, api.Deny},
		{"none and one by default", nil, []api.Rule{with(1, web, action(api.Deny))}, api.Deny},
		{"by default, each otherwise", []api.Rule{with(1, web, action(api.Log))}, []api.Rule{with(2, sport(7, 7), action(api.Log)), with(3, action(api.Log))}, api.Log},
		{"all headers do not ask for the default", []api.Rule{every(1, api.Log)}, []api.Rule{every(2, api.Log)}, api.Deny},
		{"other Ids", []api.Rule{with(1, web, action(api.Log)), with(2, action(api.Deny))}, []api.Rule{with(2, web, action(api.Log)), with(1, action(api.Deny))}, api.Queue},
		{"the whole and two halves", []api.Rule{with(1, action(api.Log))}, []api.Rule{with(1, src(0, 1), action(api.Log)), with(2, src(1<<31, 1), action(api.Log))}, api.Deny},
		{"ports that are joined", []api.Rule{with(1, dport(1, 9), action(api.Log))}, []api.Rule{with(1, dport(5, 9), action(api.Log)), with(2, dport(1, 6), action(api.Log))}, api.Deny},
		{"protocols that are joined", []api.Rule{with(1, proto(0, 4), action(api.Log))}, []api.Rule{with(3, proto(0, 12), action(api.Log)), with(2, proto(8, 12), action(api.Log))}, api.Deny},
		{"another one that is shadowed", chapter(), without(chapter(), 2), api.Deny},
		{"another order of like actions", []api.Rule{with(1, web, action(api.Log)), with(2, sport(1, 9), action(api.Log))}, []api.Rule{with(2, sport(1, 9), action(api.Log)), with(1, web, action(api.Log))}, api.Deny},
		{"another order of rules that do not meet", []api.Rule{with(1, dport(1, 5), action(api.Log)), with(2, dport(6, 9), action(api.Deny))}, []api.Rule{with(2, dport(6, 9), action(api.Deny)), with(1, dport(1, 5), action(api.Log))}, api.Permit},
		{"a rule ahead of one that does the same", []api.Rule{with(1, web, action(api.Deny)), with(2, action(api.Deny))}, []api.Rule{with(2, action(api.Deny))}, api.Permit},
		{"a hole that the default fills", []api.Rule{with(1, web, action(api.Deny)), with(2, action(api.Log))}, []api.Rule{with(1, dport(0, 79), action(api.Log)), with(2, dport(91, lastPort), action(api.Log))}, api.Deny},
	} {
		alike(t, c.name, c.l, c.m, c.a)
	}
}

// mutant is a list with something changed: a rule less, one more, two exchanged, another action, another field, or another Id alone.
func mutant(draw func(int) int, l []api.Rule) []api.Rule {
	m := slices.Clone(l)
	if len(m) == 0 {
		return drawRules(draw, 1, draw(32))
	}
	i, j := draw(len(m)), draw(len(m))
	switch draw(7) {
	case 0:
		return without(m, i)
	case 1:
		r := m[j]
		r.Id, r.Action = 999, api.Action(1+draw(4))
		return more(m, i, r)
	case 2:
		m[i], m[j] = m[j], m[i]
	case 3:
		m[i].Action = api.Action(1 + draw(4))
	case 4:
		m[i].Dport = drawSpan(draw)
	case 5:
		m[i].Proto = drawMask(draw)
	default:
		m[i].Id = 1000
	}
	return m
}

func TestDiffer(t *testing.T) {
	draw := drawer(7)
	found, none := 0, 0
	for _, l := range lists(11, 8) {
		for range 4 {
			m := mutant(draw, l)
			a := actions[draw(4)]
			if cellsOf(append(slices.Clone(l), m...)) > api.MaxCells {
				continue
			}
			if want, ok := apart(l, m, a); ok {
				found++
				differs(t, "drawn", l, m, a, want)
			} else {
				none++
				alike(t, "drawn", l, m, a)
			}
		}
	}
	if found < 300 || none < 300 {
		t.Errorf("%d differ, %d do not", found, none)
	}
}

func TestDifferOfAnActionThatIsNone(t *testing.T) {
	l, wrong, many := chapter(), []api.Rule{{}}, parted(1, 129, 129, 129, 129, 256)
	for _, a := range []api.Action{0, 5, -1, math.MaxInt, math.MinInt} {
		for _, pair := range [][2][]api.Rule{{l, l[:1]}, {nil, nil}, {wrong, l}, {l, wrong}, {many, many}, {some(65), nil}} {
			notDiffered(t, "no action", pair[0], pair[1], a, api.ErrRuleAction)
		}
	}
	for _, a := range actions {
		if _, ok, err := study.Differ(l, l, a); ok || err != api.OK {
			t.Errorf("Differ of a list and itself, %d: %v, %d", a, ok, err)
		}
	}
}

func TestDifferOfListsThatMayNotBe(t *testing.T) {
	l, many := chapter(), parted(1, 129, 129, 129, 129, 256)
	for _, c := range wrongLists() {
		notDiffered(t, c.name, c.l, l, api.Deny, c.want)
		notDiffered(t, c.name, l, c.l, api.Deny, c.want)
		notDiffered(t, c.name, c.l, nil, api.Deny, c.want)
		notDiffered(t, c.name+", ahead of the other's error", c.l, []api.Rule{with(1, proto(2, 1))}, api.Deny, c.want)
		notDiffered(t, c.name+", behind the other's error", []api.Rule{with(1, proto(2, 1))}, c.l, api.Deny, api.ErrMaskBits)
		notDiffered(t, c.name+", ahead of too many cells", many, c.l, api.Deny, c.want)
		notDiffered(t, c.name+", ahead of too many cells", c.l, many, api.Deny, c.want)
	}
}

// Each list for itself has few cells, both together are at the edge or above it.
func TestDifferAtTheEdge(t *testing.T) {
	just, above := 0, math.MaxInt
	for _, counts := range atTheEdge {
		l, m := parted(1, counts[0], counts[1], 1, 1, counts[4]), parted(1, 1, 1, counts[2], counts[3], 1)
		if cellsOf(l) > api.MaxCells || cellsOf(m) > api.MaxCells {
			continue
		}
		n := product(counts)
		if cellsOf(append(slices.Clone(l), m...)) != uint64(n) {
			t.Fatalf("%v", counts)
		}
		for _, pair := range [][2][]api.Rule{{l, m}, {m, l}} {
			if n <= api.MaxCells {
				just = max(just, n)
				if _, _, err := study.Differ(pair[0], pair[1], api.Deny); err != api.OK {
					t.Errorf("%v: %d", counts, err)
				}
			} else {
				above = min(above, n)
				notDiffered(t, "above the edge", pair[0], pair[1], api.Deny, api.ErrStudyMany)
			}
		}
	}
	if just != 65536 || above != 65540 {
		t.Errorf("the greatest that fits is %d, the least that does not %d", just, above)
	}
}

// What both lists have is not counted twice, nor do both together have too many rules.
func TestDifferOfTheLongestLists(t *testing.T) {
	l := parted(1, 128, 128, 1, 1, 4)
	m := slices.Clone(l)
	for i := range m {
		m[i].Id += 64
	}
	if len(l) != api.MaxRules || cellsOf(l) != api.MaxCells {
		t.Fatalf("%d rules, %d cells", len(l), cellsOf(l))
	}
	alike(t, "the longest", l, m, api.Deny)
	m[63].Action = 1 + m[63].Action%4
	differs(t, "the longest", l, m, api.Deny, api.Header{Src: lastAddr, Dst: lastAddr})
	notDiffered(t, "one class more", l, append(m[:63:63], with(200, sport(0, 0))), api.Deny, api.ErrStudyMany)
	notDiffered(t, "one list of too many", parted(1, 113, 29, 20, 1, 1), nil, api.Deny, api.ErrStudyMany)
	notDiffered(t, "one list of too many", nil, parted(1, 113, 29, 20, 1, 1), api.Deny, api.ErrStudyMany)
}

// A small world: all that is told is held against each of its headers, one by one.

// world are the headers, by rising order, that tell all of the headers apart for rules of drawSmall.
func world() []api.Header {
	var list []api.Header
	for _, src := range []uint32{0, 1, 1 << 31, lastAddr - 1, lastAddr} {
		for _, dst := range []uint32{0, 1, 1 << 31, lastAddr - 1, lastAddr} {
			for _, sport := range []uint16{0, 1, 2, 6, lastPort - 1, lastPort} {
				for _, dport := range []uint16{0, 1, 2, 6, lastPort - 1, lastPort} {
					for _, proto := range []uint8{0, 1, 6, 128, 129} {
						list = append(list, api.Header{Src: src, Dst: dst, Sport: sport, Dport: dport, Proto: proto})
					}
				}
			}
		}
	}
	return list
}

func drawSmall(draw func(int) int, id int) api.Rule {
	prefix := func() api.Prefix {
		return []api.Prefix{{}, {}, {}, {Len: 1}, {Len: 32}, {Addr: 1 << 31, Len: 1}, {Addr: lastAddr, Len: 32}, {Addr: lastAddr - 1, Len: 31}}[draw(8)]
	}
	span := func() api.Span {
		los, his := []uint16{0, 1, 2, 6, lastPort - 1, lastPort}, []uint16{0, 1, 5, lastPort - 2, lastPort - 1, lastPort}
		lo := draw(6)
		return []api.Span{{Hi: lastPort}, {Lo: los[lo], Hi: his[lo+draw(6-lo)]}}[draw(2)]
	}
	mask := []api.Mask{{}, {}, {Value: 1, Care: 1}, {Care: 1}, {Value: 128, Care: 128}, {Care: 129}, {Value: 129, Care: 129}, {Value: 6, Care: 255}}[draw(8)]
	return api.Rule{Id: id, Src: prefix(), Dst: prefix(), Sport: span(), Dport: span(), Proto: mask, Action: api.Action(1 + draw(4))}
}

func TestSmallWorld(t *testing.T) {
	heads := world()
	draw := drawer(13)
	for i := range 90 {
		l := make([]api.Rule, 1+draw([]int{4, 12, 64}[i%3]))
		for j := range l {
			l[j] = drawSmall(draw, j+1)
		}
		m := mutant(draw, slices.Clone(l))
		for j := range m {
			if m[j].Dport != l[min(j, len(l)-1)].Dport || m[j].Proto != l[min(j, len(l)-1)].Proto {
				m[j] = drawSmall(draw, 2000+j)
			}
		}
		m = m[:min(len(m), 64)]
		smallWorldOf(t, l, m, actions[draw(4)], heads)
	}
}

func smallWorldOf(t *testing.T, l, m []api.Rule, a api.Action, heads []api.Header) {
	t.Helper()
	witness := map[int]api.Header{}
	var unlike []api.Header
	for _, h := range heads {
		place := first(l, h)
		if _, ok := witness[place]; !ok {
			witness[place] = h
		}
		if decides(l, a, h) != decides(m, a, h) {
			unlike = append(unlike, h)
		}
	}
	var idle []int
	for place := range l {
		if h, ok := witness[place]; ok {
			sameWitness(t, "small", l, place, h)
		} else {
			idle = append(idle, place)
			noWitness(t, "small", l, place, api.OK)
		}
	}
	sameShadows(t, "small", l, idle...)
	if len(unlike) > 0 {
		differs(t, "small", l, m, a, unlike[0])
	} else {
		alike(t, "small", l, m, a)
	}
}

// P20.5

func TestWitnessIsDecidedByItsRule(t *testing.T) {
	draw := drawer(17)
	for _, l := range lists(19, 24) {
		for place := range l {
			w, ok, err := study.Witness(l, place)
			shadowed, err2 := study.Shadowed(l, place)
			if err != api.OK || err2 != api.OK || ok == shadowed {
				t.Errorf("%v at %d: a witness %v, %d; shadowed %v, %d", l, place, ok, err, shadowed, err2)
			}
			if ok && first(l, w) != place {
				t.Errorf("%v: the witness %+v at %d is decided at %d", l, w, place, first(l, w))
			}
			for _, h := range near(draw, append(slices.Clone(l[:place+1]), l[place], l[place]), 12) {
				if first(l, h) == place && (!ok || header.Compare(w, h) > 0) {
					t.Errorf("%v: %+v is decided at %d, ahead of the witness %+v, %v", l, h, place, w, ok)
				}
			}
		}
	}
}

func TestWithoutThoseThatAreShadowed(t *testing.T) {
	draw := drawer(23)
	gone := 0
	for _, l := range lists(29, 24) {
		places, err := study.Shadows(l)
		if err != api.OK {
			t.Fatalf("%v: %d", l, err)
		}
		m := rest(l, places)
		gone += len(places)
		sameShadows(t, "what is left", m)
		for _, a := range actions {
			alike(t, "what is left", l, m, a)
		}
		for _, h := range near(draw, l, 60) {
			if decides(l, 0, h) != decides(m, 0, h) {
				t.Errorf("%v and %v: %+v", l, m, h)
			}
		}
	}
	if gone < 300 {
		t.Errorf("only %d are shadowed", gone)
	}
}

// Only those that are shadowed may go without a change, if the actions are all unlike that behind them: each rule else has a header that is decided otherwise.
func TestWithoutOneThatIsNotShadowed(t *testing.T) {
	for _, l := range lists(31, 9) {
		for i := range l {
			l[i].Action = actions[i%2]
		}
		for place := range l {
			w, ok, _ := study.Witness(l, place)
			m := slices.Clone(l)
			m[place].Action = api.Queue
			if ok {
				differs(t, "another action", l, m, api.Log, w)
			} else {
				alike(t, "another action", l, m, api.Log)
			}
		}
	}
}

func TestRulesBehindChangeNothing(t *testing.T) {
	for _, l := range lists(37, 16) {
		places, _ := study.Shadows(l)
		for n := range l {
			var ahead []int
			for _, place := range places {
				if place < n {
					ahead = append(ahead, place)
				}
			}
			sameShadows(t, "the rules ahead", l[:n:n], ahead...)
		}
		for place := range l {
			w, ok, _ := study.Witness(l, place)
			if w2, ok2, err := study.Witness(l[:place+1:place+1], place); w2 != w || ok2 != ok || err != api.OK {
				t.Errorf("%v at %d: %+v, %v; without those behind %+v, %v, %d", l, place, w, ok, w2, ok2, err)
			}
		}
	}
}

// What Differ tells is decided otherwise, and nothing ahead of it that is looked at.
func TestDifferTellsTheLeast(t *testing.T) {
	draw := drawer(41)
	for _, l := range lists(43, 24) {
		m := mutant(draw, l)
		a := actions[draw(4)]
		if cellsOf(append(slices.Clone(l), m...)) > api.MaxCells {
			continue
		}
		h, ok, err := study.Differ(l, m, a)
		if err != api.OK || ok && decides(l, a, h) == decides(m, a, h) {
			t.Errorf("Differ(%v, %v, %d) = %+v, %v, %d", l, m, a, h, ok, err)
		}
		if h2, ok2, err2 := study.Differ(m, l, a); h2 != h || ok2 != ok || err2 != err {
			t.Errorf("Differ(%v, %v, %d) = %+v, %v, %d, the other way round %+v, %v, %d", l, m, a, h, ok, err, h2, ok2, err2)
		}
		for _, x := range near(draw, append(slices.Clone(l), m...), 60) {
			if decides(l, a, x) != decides(m, a, x) && (!ok || header.Compare(x, h) < 0) {
				t.Errorf("Differ(%v, %v, %d) = %+v, %v, but %+v", l, m, a, h, ok, x)
			}
		}
	}
}

func TestTheSameRulesDoNotDiffer(t *testing.T) {
	for _, l := range lists(47, 24) {
		m := slices.Clone(l)
		for i := range m {
			m[i].Id = api.MaxId - i
		}
		for _, a := range actions {
			alike(t, "the same", l, l, a)
			alike(t, "the same but for Ids", l, m, a)
		}
	}
}

// R2

// told is all that the calls answer.
type told struct {
	cells   int
	shadows []int
	heads   []api.Header
	yes     []bool
	errs    []api.Errno
}

func tell(l, m []api.Rule) told {
	var all told
	n, err := study.Cells(l)
	places, err2 := study.Shadows(l)
	h, ok, err3 := study.Differ(l, m, api.Deny)
	all.cells, all.shadows = n, places
	all.heads, all.yes, all.errs = []api.Header{h}, []bool{ok}, []api.Errno{err, err2, err3}
	for place := -1; place <= len(l); place++ {
		s, err := study.Shadowed(l, place)
		w, ok, err2 := study.Witness(l, place)
		all.heads, all.yes, all.errs = append(all.heads, w), append(all.yes, s, ok), append(all.errs, err, err2)
	}
	return all
}

func (x told) equal(y told) bool {
	return x.cells == y.cells && slices.Equal(x.shadows, y.shadows) && slices.Equal(x.heads, y.heads) && slices.Equal(x.yes, y.yes) && slices.Equal(x.errs, y.errs)
}

// pairsOfLists are lists that are asked about: with and without errors.
func pairsOfLists() [][2][]api.Rule {
	l := chapter()
	return [][2][]api.Rule{
		{l, l[:2]}, {l[1:], l}, {nil, l}, {l, nil}, {some(64), l}, {some(65), l}, {l, some(65)}, {append(some(3), l[0]), l}, {parted(1, 16, 16, 16, 17, 1), l},
		{parted(1, 16, 16, 16, 16, 1), nil}, {{l[0], {}}, l}, {l, {with(7, sport(2, 1))}}, {some64(), l},
	}
}

func TestListsStay(t *testing.T) {
	for _, pair := range pairsOfLists() {
		var rooms, were [2][]api.Rule
		for i, l := range pair {
			rooms[i] = append(slices.Clone(l), with(501), api.Rule{}, with(502))
			were[i] = slices.Clone(rooms[i])
		}
		tell(rooms[0][:len(pair[0])], rooms[1][:len(pair[1])])
		for i := range rooms {
			if !slices.Equal(rooms[i], were[i]) {
				t.Errorf("%v became %v", were[i], rooms[i])
			}
		}
	}
}

func TestAnswersAreNew(t *testing.T) {
	l := some64()
	got, _ := study.Shadows(l)
	want := slices.Clone(got)
	clear(got)
	if again, err := study.Shadows(l); !slices.Equal(again, want) || err != api.OK {
		t.Errorf("Shadows = %v, %d, wanted %v", again, err, want)
	}
	one, _ := study.Shadows(l[:5])
	two, _ := study.Shadows(l[:5])
	_ = append(one, 77)
	two = append(two, 78)
	one[0] = 99
	if !slices.Equal(two, []int{1, 2, 3, 4, 78}) {
		t.Errorf("two answers share: %v", two)
	}
}

// What was asked ahead changes nothing, errors neither; what a list holds by then is asked about.
func TestSameAgain(t *testing.T) {
	var want []told
	for _, pair := range pairsOfLists() {
		want = append(want, tell(pair[0], pair[1]))
	}
	for range 2 {
		for i, pair := range pairsOfLists() {
			if got := tell(pair[0], pair[1]); !got.equal(want[i]) {
				t.Errorf("%d: %v, then %v", i, want[i], got)
			}
		}
	}
	l := chapter()
	sameShadows(t, "as it is", l, 2)
	l[1].Dport.Hi = 84
	sameShadows(t, "as it became", l)
}

func TestAskedFromSeveralSides(t *testing.T) {
	pairs := pairsOfLists()
	var want []told
	for _, pair := range pairs {
		want = append(want, tell(pair[0], pair[1]))
	}
	var wg sync.WaitGroup
	for range 8 {
		wg.Go(func() {
			for i, pair := range pairs {
				if got := tell(pair[0], pair[1]); !got.equal(want[i]) {
					t.Errorf("%d: %v, wanted %v", i, got, want[i])
				}
			}
		})
	}
	wg.Wait()
}

// The chapter's table.
func TestExamples(t *testing.T) {
	l := chapter()
	a, b, d := l[0], l[1], l[3]
	sameCells(t, "A, B, C, D", l, 18, api.OK)
	sameShadows(t, "A, B, C, D", l, 2)
	if got, err := study.Shadowed(l, 2); !got || err != api.OK {
		t.Errorf("Shadowed at 2: %v, %d", got, err)
	}
	if got, err := study.Shadowed(l, 4); got || err != api.ErrStudyPlace {
		t.Errorf("Shadowed at 4: %v, %d", got, err)
	}
	sameWitness(t, "A", l, 0, api.Header{Dport: 80, Proto: 6})
	sameWitness(t, "B", l, 1, api.Header{Dport: 80})
	noWitness(t, "C", l, 2, api.OK)
	sameWitness(t, "D", l, 3, api.Header{})
	differs(t, "A, B and B", []api.Rule{a, b}, []api.Rule{b}, api.Deny, api.Header{Dport: 80, Proto: 6})
	alike(t, "A, B, C, D and A, B, D", l, []api.Rule{a, b, d}, api.Deny)
	alike(t, "B and none", []api.Rule{b}, nil, api.Deny)
	sameCells(t, "none", nil, 1, api.OK)
	many := make([]api.Rule, 64)
	for i := range many {
		n := uint32(2*i + 1)
		many[i] = with(i+1, src(n, 32), dst(n, 32), sport(uint16(n), uint16(n)), dport(uint16(n), uint16(n)), proto(uint8(i), 255))
	}
	sameCells(t, "64 rules", many, 0, api.ErrStudyMany)
}
