package thin_test

import (
	"math"
	"slices"
	"sync"
	"testing"

	"quintet/api"
	"quintet/box"
	"quintet/rule"
	"quintet/study"
	"quintet/thin"
)

const (
	lastAddr = math.MaxUint32
	lastPort = math.MaxUint16
)

var actions = []api.Action{api.Deny, api.Permit, api.Log, api.Queue}

// every is the rule of all headers, written out.
func every(id int, a api.Action) api.Rule {
	return api.Rule{
		Id: id, Src: api.Prefix{Addr: 0, Len: 0}, Dst: api.Prefix{Addr: 0, Len: 0},
		Sport: api.Span{Lo: 0, Hi: lastPort}, Dport: api.Span{Lo: 0, Hi: lastPort},
		Proto: api.Mask{Value: 0, Care: 0}, Action: a,
	}
}

// with is the rule of all headers with some of its fields changed; its action follows from its Id.
func with(id int, changes ...func(*api.Rule)) api.Rule {
	r := every(id, api.Action(1+id%4))
	for _, change := range changes {
		change(&r)
	}
	return r
}

func src(addr uint32, n int) func(*api.Rule) {
	return func(r *api.Rule) { r.Src = pre(addr, n) }
}

func dst(addr uint32, n int) func(*api.Rule) {
	return func(r *api.Rule) { r.Dst = pre(addr, n) }
}

func sport(lo, hi uint16) func(*api.Rule) {
	return func(r *api.Rule) { r.Sport = api.Span{Lo: lo, Hi: hi} }
}

func dport(lo, hi uint16) func(*api.Rule) {
	return func(r *api.Rule) { r.Dport = api.Span{Lo: lo, Hi: hi} }
}

func proto(value, care uint8) func(*api.Rule) {
	return func(r *api.Rule) { r.Proto = api.Mask{Value: value, Care: care} }
}

func action(a api.Action) func(*api.Rule) {
	return func(r *api.Rule) { r.Action = a }
}

// pre is the prefix of so many bits of an address.
func pre(addr uint32, n int) api.Prefix {
	return api.Prefix{Addr: uint32(uint64(addr) >> (32 - n) << (32 - n)), Len: n}
}

func addr(a, b, c, d uint32) uint32 { return a<<24 | b<<16 | c<<8 | d }

// letters are the rules A, B, C and D of the chapter's examples.
func letters() (a, b, c, d api.Rule) {
	tcp := proto(6, 255)
	return every(1, api.Permit), with(2, tcp, action(api.Permit)), with(3, tcp, action(api.Deny)), every(4, api.Deny)
}

// without is a list without one of its rules, more one with another rule there.

func without(l []api.Rule, place int) []api.Rule {
	return slices.Delete(slices.Clone(l), place, place+1)
}

func more(l []api.Rule, place int, r api.Rule) []api.Rule {
	return slices.Insert(slices.Clone(l), place, r)
}

// What is asked, held against what is wanted.

func sameNeedless(t *testing.T, what string, l []api.Rule, place int, a api.Action, want api.CutKind, wantErr api.Errno) {
	t.Helper()
	if got, err := thin.Needless(l, place, a); got != want || err != wantErr {
		t.Errorf("%s: Needless(%v, %d, %d) = %d, %d, wanted %d, %d", what, l, place, a, got, err, want, wantErr)
	}
}

// sameKinds asks Needless of each place.
func sameKinds(t *testing.T, what string, l []api.Rule, a api.Action, want ...api.CutKind) {
	t.Helper()
	if len(want) != len(l) {
		t.Fatalf("%s: %d kinds of %d rules", what, len(want), len(l))
	}
	for place, kind := range want {
		sameNeedless(t, what, l, place, a, kind, api.OK)
	}
}

func sameThin(t *testing.T, what string, l []api.Rule, a api.Action, want []api.Rule, gone ...api.Cut) {
	t.Helper()
	left, cuts, err := thin.Thin(l, a)
	if !slices.Equal(left, want) || !slices.Equal(cuts, gone) || err != api.OK {
		t.Errorf("%s: Thin(%v, %d) = %v, %v, %d, wanted %v, %v", what, l, a, left, cuts, err, want, gone)
	}
}

// refused asks both calls.
func refused(t *testing.T, what string, l []api.Rule, a api.Action, want api.Errno) {
	t.Helper()
	for _, place := range []int{0, len(l) - 1, -1, len(l), math.MinInt, math.MaxInt} {
		if got, err := thin.Needless(l, place, a); got != 0 || err != want {
			t.Errorf("%s: Needless at %d, %d = %d, %d, wanted %d", what, place, a, got, err, want)
		}
	}
	if left, cuts, err := thin.Thin(l, a); len(left) != 0 || len(cuts) != 0 || err != want {
		t.Errorf("%s: Thin, %d = %v, %v, %d, wanted %d", what, a, left, cuts, err, want)
	}
}

// The models.

// begins says by division whether an address is in a prefix that may be.
func begins(p api.Prefix, addr uint32) bool {
	n := uint64(1) << (32 - p.Len)
	return uint64(p.Addr)/n == uint64(addr)/n
}

// matches is DOC.md's word, of a rule that may be.
func matches(r api.Rule, h api.Header) bool {
	return begins(r.Src, h.Src) && begins(r.Dst, h.Dst) &&
		r.Sport.Lo <= h.Sport && h.Sport <= r.Sport.Hi && r.Dport.Lo <= h.Dport && h.Dport <= r.Dport.Hi &&
		(h.Proto^r.Proto.Value)&r.Proto.Care == 0
}

// first is the place of the first match; -1, if there is none.
func first(l []api.Rule, h api.Header) int {
	return slices.IndexFunc(l, func(r api.Rule) bool { return matches(r, h) })
}

// decides is the action that a list decides.
func decides(l []api.Rule, other api.Action, h api.Header) api.Action {
	if place := first(l, h); place >= 0 {
		return l[place].Action
	}
	return other
}

// less is what is left of some boxes without another one.
func less(boxes []api.Box, b api.Box) []api.Box {
	var left []api.Box
	for _, x := range boxes {
		left = append(left, box.Less(x, b)...)
	}
	return left
}

// meets says whether one of the boxes meets another one.
func meets(boxes []api.Box, b api.Box) bool {
	return slices.ContainsFunc(boxes, func(x api.Box) bool {
		_, ok := box.Meet(x, b)
		return ok
	})
}

// boxOf is the box of a rule that may be.
func boxOf(r api.Rule) api.Box {
	b, _ := rule.Box(r)
	return b
}

// needlessOf is the model's Needless: the boxes that the rule decides are given to the rules behind it, one by one, and what is left then to the default.
func needlessOf(l []api.Rule, place int, a api.Action) api.CutKind {
	boxes := []api.Box{boxOf(l[place])}
	for _, r := range l[:place] {
		boxes = less(boxes, boxOf(r))
	}
	if len(boxes) == 0 {
		return api.CutUp
	}
	for _, r := range append(slices.Clone(l[place+1:]), every(1, a)) {
		if r.Action != l[place].Action && meets(boxes, boxOf(r)) {
			return 0
		}
		boxes = less(boxes, boxOf(r))
	}
	return api.CutDown
}

// thinOf is the model's Thin.
func thinOf(l []api.Rule, a api.Action) ([]api.Rule, []api.Cut) {
	left := slices.Clone(l)
	var cuts []api.Cut
	for again := true; again; {
		again = false
		for place := len(left) - 1; place >= 0; place-- {
			if kind := needlessOf(left, place, a); kind != 0 {
				cuts = append(cuts, api.Cut{Id: left[place].Id, Kind: kind})
				left = without(left, place)
				again = true
			}
		}
	}
	return left, cuts
}

// ranges is the four fields of a rule of addresses and ports, each from .. to, and how great it may be.
func ranges(r api.Rule) [4][3]uint64 {
	last := func(p api.Prefix) uint64 { return uint64(p.Addr) + 1<<(32-p.Len) - 1 }
	return [4][3]uint64{
		{uint64(r.Src.Addr), last(r.Src), lastAddr}, {uint64(r.Dst.Addr), last(r.Dst), lastAddr},
		{uint64(r.Sport.Lo), uint64(r.Sport.Hi), lastPort}, {uint64(r.Dport.Lo), uint64(r.Dport.Hi), lastPort},
	}
}

// cellsOf is the model's Cells, of rules that may be, however many cells there are: the classes' beginnings stand in a map, those of the protocols are told apart by a text.
func cellsOf(l []api.Rule) uint64 {
	var starts [4]map[uint64]int
	for i := range starts {
		starts[i] = map[uint64]int{0: 1}
	}
	for _, r := range l {
		for i, f := range ranges(r) {
			starts[i][f[0]]++
			if f[1] != f[2] {
				starts[i][f[1]+1]++
			}
		}
	}
	protos := map[string]int{}
	for p := range 256 {
		text := make([]byte, len(l))
		for i, r := range l {
			if (uint8(p)^r.Proto.Value)&r.Proto.Care == 0 {
				text[i] = 1
			}
		}
		protos[string(text)]++
	}
	n := uint64(len(protos))
	for i := range starts {
		n *= uint64(len(starts[i]))
	}
	return n
}

// Rules and headers that are drawn.

// drawer gives numbers by a rule that goes all about, the same each time.
func drawer(state uint64) func(n int) int {
	return func(n int) int {
		state = state*6364136223846793005 + 1442695040888963407
		return int(state >> 33 % uint64(n))
	}
}

// drawPrefix cuts one of few addresses, so that many of the prefixes lie within one another; /0 and /32 are frequent.
func drawPrefix(draw func(int) int) api.Prefix {
	at := []uint32{addr(10, 1, 2, 3), addr(10, 1, 2, 2), addr(138, 200, 0, 1), 0, lastAddr, 1 << 31}[draw(6)]
	return pre(at, []int{0, 1, 32, 8, 31, 2, draw(33)}[draw(7)])
}

// drawSpan has few ends, so that many are alike, lie within one another, or beside one another.
func drawSpan(draw func(int) int) api.Span {
	ends := []uint16{0, 1, 79, 80, 81, 1023, 1024, lastPort - 1, lastPort}
	a, b := ends[draw(len(ends))], ends[draw(len(ends))]
	return api.Span{Lo: min(a, b), Hi: max(a, b)}
}

func drawMask(draw func(int) int) api.Mask {
	care := uint8(draw(256))
	some := api.Mask{Value: uint8(draw(256)) & care, Care: care}
	return []api.Mask{{}, {Value: 6, Care: 255}, {Value: 1, Care: 1}, {Care: 1}, {Care: 0x80}, {Value: 0x81, Care: 0x81}, {Value: 255, Care: 255}, some}[draw(8)]
}

// drawRules are n rules that may be, the Ids from 1 on, of which some fields alone, as the bits of which tell, are unlike all.
func drawRules(draw func(int) int, n, which int) []api.Rule {
	l := make([]api.Rule, n)
	for i := range l {
		p, q, s, d, m := drawPrefix(draw), drawPrefix(draw), drawSpan(draw), drawSpan(draw), drawMask(draw)
		l[i] = every(i+1, api.Action(1+draw(4)))
		for j, set := range []func(){func() { l[i].Src = p }, func() { l[i].Dst = q }, func() { l[i].Sport = s }, func() { l[i].Dport = d }, func() { l[i].Proto = m }} {
			if which>>j&1 == 1 && draw(4) > 0 {
				set()
			}
		}
	}
	return l
}

// drawCoarse are n rules that may be, the Ids from 1 on, of which one or two fields are halves and quarters of all, so that some together have what none has alone.
func drawCoarse(draw func(int) int, n int) []api.Rule {
	l := make([]api.Rule, n)
	one, other := draw(5), draw(5)
	for i := range l {
		l[i] = every(i+1, api.Action(1+draw(4)))
		for _, which := range []int{one, other} {
			bits, part := draw(3), uint32(draw(4))
			span := api.Span{Lo: uint16(part << 14), Hi: uint16((part+uint32(draw(int(4-part)))+1)<<14 - 1)}
			switch which {
			case 0:
				l[i].Src = pre(part<<30, bits)
			case 1:
				l[i].Dst = pre(part<<30, bits)
			case 2:
				l[i].Sport = span
			case 3:
				l[i].Dport = span
			default:
				care := uint8(draw(4)) << 3
				l[i].Proto = api.Mask{Value: uint8(part) << 3 & care, Care: care}
			}
		}
	}
	return l
}

// few turns the actions of rules into one of two, so that many may go.
func few(draw func(int) int, l []api.Rule) []api.Rule {
	one, other := actions[draw(4)], actions[draw(4)]
	for i := range l {
		l[i].Action = []api.Action{one, other, one}[draw(3)]
	}
	return l
}

// lists are lists of rules that may be with no more than 65536 cells: of each set of fields some, short and longer ones, with few actions and many.
func lists(state uint64, longest int) [][]api.Rule {
	draw := drawer(state)
	a, b, c, d := letters()
	all := [][]api.Rule{nil, {}, {a}, {every(api.MaxId, api.Queue), b}, {a, b, c, d}, {d, c, b, a}, {b, c, a, d}}
	for which := range 32 {
		for i := range 8 {
			l := drawRules(draw, 1+draw(2+longest*i/8), which)
			if cellsOf(l) <= api.MaxCells {
				all = append(all, l, few(draw, slices.Clone(l)), few(draw, drawCoarse(draw, 1+draw(longest))))
			}
		}
	}
	return all
}

// near are n headers, drawn from where the rules' fields begin and end, and from beside that; mostly of two rules.
func near(draw func(int) int, l []api.Rule, n int) []api.Header {
	l = append([]api.Rule{every(1, api.Deny)}, l...)
	heads := make([]api.Header, n)
	for i := range heads {
		a, b := l[draw(len(l))], l[draw(len(l))]
		if draw(3) == 0 {
			b = a
		}
		x, y := ranges(a), ranges(b)
		at := func(f [3]uint64) uint64 { return []uint64{f[0], f[1], f[0] - 1, f[1] + 1}[draw(10)%4] }
		heads[i] = api.Header{
			Src: uint32(at(x[0])), Dst: uint32(at(y[1])), Sport: uint16(at(x[2])), Dport: uint16(at(y[3])),
			Proto: []uint8{a.Proto.Value, b.Proto.Value, a.Proto.Value | ^a.Proto.Care, ^a.Proto.Value}[draw(4)],
		}
	}
	return heads
}

// parted are as many rules as are needed, no two of one Id, that part their fields into so many classes: by single numbers beyond one another, and by one that goes up to the greatest; the protocols by single ones too, from 9 to 256 a power of two by single bits.
func parted(from int, counts ...int) []api.Rule {
	n := 1
	for _, c := range counts[:4] {
		n = max(n, c/2)
	}
	bit := 0
	for 1<<bit < counts[4] {
		bit++
	}
	n = max(n, bit)
	if counts[4] < 9 {
		n = max(n, counts[4]-1)
	}
	l := make([]api.Rule, n)
	for i := range l {
		l[i] = every(from+i, api.Action(1+i%4))
		at := uint32(2*i + 1)
		part := func(c int, single, last func(*api.Rule)) {
			switch {
			case 2*i+2 < c:
				single(&l[i])
			case 2*i+2 == c:
				last(&l[i])
			}
		}
		part(counts[0], src(at, 32), src(lastAddr, 32))
		part(counts[1], dst(at, 32), dst(lastAddr, 32))
		part(counts[2], sport(uint16(at), uint16(at)), sport(lastPort, lastPort))
		part(counts[3], dport(uint16(at), uint16(at)), dport(lastPort, lastPort))
		if counts[4] < 9 && i+1 < counts[4] {
			l[i].Proto = api.Mask{Value: uint8(i), Care: 255}
		} else if counts[4] >= 9 && i < bit {
			l[i].Proto = api.Mask{Value: 1 << i, Care: 1 << i}
		}
	}
	return l
}

func product(counts []int) int {
	n := 1
	for _, c := range counts {
		n *= c
	}
	return n
}

// Errors of lists.

// wrongRule is a rule that may not be, and why.
type wrongRule struct {
	r    api.Rule
	want api.Errno
}

// wrongRules are rules of that Id that may not be, one field each.
func wrongRules(id int) []wrongRule {
	return []wrongRule{
		{api.Rule{}, api.ErrRuleId},
		{with(0), api.ErrRuleId},
		{every(-5, api.Log), api.ErrRuleId},
		{with(api.MaxId + 1), api.ErrRuleId},
		{with(0, sport(2, 1)), api.ErrRuleId},
		{with(id, func(r *api.Rule) { r.Src.Len = 33 }), api.ErrPrefixLen},
		{with(id, func(r *api.Rule) { r.Src.Len = math.MinInt }), api.ErrPrefixLen},
		{with(id, func(r *api.Rule) { r.Dst.Len = -1 }), api.ErrPrefixLen},
		{with(id, func(r *api.Rule) { r.Src = api.Prefix{Addr: 1, Len: 31} }), api.ErrPrefixBits},
		{with(id, func(r *api.Rule) { r.Dst = api.Prefix{Addr: 1 << 31} }), api.ErrPrefixBits},
		{with(id, sport(2, 1)), api.ErrSpanEnds},
		{with(id, dport(lastPort, 0)), api.ErrSpanEnds},
		{with(id, proto(2, 1)), api.ErrMaskBits},
		{with(id, action(0)), api.ErrRuleAction},
		{with(id, action(5)), api.ErrRuleAction},
		{with(id, action(-1)), api.ErrRuleAction},
	}
}

// some are n rules that may be, the Ids from 1 on, with few cells.
func some(n int) []api.Rule {
	l := make([]api.Rule, n)
	for i := range l {
		l[i] = with(i+1, src(uint32(i)<<24, 8))
	}
	return l
}

// wrongLists are lists that may not be, and why.
func wrongLists() []struct {
	name string
	l    []api.Rule
	want api.Errno
} {
	type wrong = struct {
		name string
		l    []api.Rule
		want api.Errno
	}
	l := some(8)
	var list []wrong
	for _, w := range wrongRules(99) {
		list = append(list, wrong{"a wrong rule alone", []api.Rule{w.r}, w.want})
		for place := range len(l) + 1 {
			list = append(list, wrong{"a wrong rule", more(l, place, w.r), w.want})
		}
		list = append(list,
			wrong{"a wrong rule ahead of a double one", append(more(l, 3, w.r), l[0]), w.want},
			wrong{"a wrong rule as the 65th", append(some(64), w.r), w.want},
			wrong{"a wrong rule as the 66th", append(some(65), w.r), api.ErrTableFull},
			wrong{"a wrong rule behind a double one", append(slices.Clone(l), l[7], w.r), api.ErrTableTwice},
			wrong{"a wrong rule behind another one", append(slices.Clone(l), with(98, sport(9, 8)), w.r), api.ErrSpanEnds},
			wrong{"a wrong rule with too many cells", append(parted(1000, 129, 129, 129, 129, 256)[:63], w.r), w.want})
	}
	return append(list,
		wrong{"a rule twice", []api.Rule{l[0], l[0]}, api.ErrTableTwice},
		wrong{"an Id twice", []api.Rule{l[0], l[1], with(1, dport(80, 80))}, api.ErrTableTwice},
		wrong{"an Id twice, at the front and the end", append(some(63), with(1)), api.ErrTableTwice},
		wrong{"an Id twice, as the 65th", append(some(64), l[0]), api.ErrTableTwice},
		wrong{"an Id twice, as the 66th", append(some(65), l[0]), api.ErrTableFull},
		wrong{"an Id twice with too many cells", append(parted(1, 129, 129, 129, 129, 256)[:63], with(1)), api.ErrTableTwice},
		wrong{"65", some(65), api.ErrTableFull},
		wrong{"65 with too many cells", append(parted(1, 129, 129, 129, 129, 256), with(1000)), api.ErrTableFull},
		wrong{"very many", some(100000), api.ErrTableFull},
	)
}

// P21.1

// single is a rule of one header.
func single(id int, a api.Action) api.Rule {
	return with(id, src(1, 32), dst(2, 32), sport(3, 3), dport(4, 4), proto(5, 255), action(a))
}

func TestNeedlessByHand(t *testing.T) {
	a, b, c, d := letters()
	up, down, stays := api.CutUp, api.CutDown, api.CutKind(0)
	deny, permit := action(api.Deny), action(api.Permit)
	low, high, ten := src(addr(10, 0, 0, 0), 9), src(addr(10, 128, 0, 0), 9), src(addr(10, 0, 0, 0), 8)
	for _, x := range []struct {
		name string
		l    []api.Rule
		a    api.Action
		want []api.CutKind
	}{
		{"none", nil, api.Deny, nil},
		{"the default", []api.Rule{d}, api.Deny, []api.CutKind{down}},
		{"not the default", []api.Rule{d}, api.Permit, []api.CutKind{stays}},
		{"some of the default", []api.Rule{c}, api.Deny, []api.CutKind{down}},
		{"some, not of the default", []api.Rule{b}, api.Deny, []api.CutKind{stays}},
		{"within one ahead", []api.Rule{a, b}, api.Deny, []api.CutKind{stays, up}},
		{"within one ahead that does otherwise", []api.Rule{a, c}, api.Deny, []api.CutKind{stays, up}},
		{"within one ahead, and of the default", []api.Rule{d, c}, api.Deny, []api.CutKind{down, up}},
		{"within one behind", []api.Rule{b, a}, api.Deny, []api.CutKind{down, stays}},
		{"within one behind that does otherwise", []api.Rule{c, a}, api.Deny, []api.CutKind{stays, stays}},
		{"the same twice", []api.Rule{a, every(7, api.Permit)}, api.Deny, []api.CutKind{down, up}},
		{"the same headers, done otherwise", []api.Rule{b, c}, api.Deny, []api.CutKind{stays, up}},
		{"two halves ahead", []api.Rule{with(1, low, permit), with(2, high, permit), with(3, ten, deny)}, api.Log, []api.CutKind{stays, stays, up}},
		{"one half ahead", []api.Rule{with(1, low, permit), with(3, ten, deny)}, api.Log, []api.CutKind{stays, stays}},
		{"two halves behind", []api.Rule{with(3, ten, permit), with(1, low, permit), with(2, high, permit)}, api.Deny, []api.CutKind{down, up, up}},
		{"two halves behind, one done otherwise", []api.Rule{with(3, ten, permit), with(1, low, permit), with(2, high, deny)}, api.Log, []api.CutKind{stays, up, up}},
		{"one half behind, the other one by default", []api.Rule{with(3, ten, permit), with(1, low, permit)}, api.Permit, []api.CutKind{down, up}},
		{"one half behind, the other one otherwise by default", []api.Rule{with(3, ten, permit), with(1, low, permit)}, api.Deny, []api.CutKind{stays, up}},
		{"one half ahead, the other one behind", []api.Rule{with(1, low, permit), with(3, ten, permit), with(2, high, permit)}, api.Deny, []api.CutKind{down, down, up}},
		{"another one between", []api.Rule{b, c, a}, api.Deny, []api.CutKind{stays, up, stays}},
		{"another one between that is decided ahead", []api.Rule{c, with(5, dport(80, 80), permit), with(6, dport(80, 80), proto(6, 255), deny), a}, api.Log, []api.CutKind{stays, down, up, stays}},
		{"all but the last port ahead", []api.Rule{with(1, dport(0, lastPort-1), permit), with(2, permit)}, api.Deny, []api.CutKind{down, stays}},
		{"all but the last port behind", []api.Rule{with(2, permit), with(1, dport(0, lastPort-1), permit)}, api.Deny, []api.CutKind{stays, up}},
		{"one header", []api.Rule{single(1, api.Permit)}, api.Deny, []api.CutKind{stays}},
		{"one header, by default", []api.Rule{single(1, api.Permit)}, api.Permit, []api.CutKind{down}},
		{"one header, twice", []api.Rule{single(1, api.Permit), single(2, api.Log)}, api.Permit, []api.CutKind{stays, up}},
		{"one header within all", []api.Rule{single(1, api.Permit), d}, api.Permit, []api.CutKind{stays, stays}},
		{"one header is done otherwise between", []api.Rule{every(3, api.Permit), single(2, api.Log), a}, api.Log, []api.CutKind{stays, up, up}},
		{"one header is left", []api.Rule{with(1, src(0, 32), deny), with(2, src(0, 31), deny), d}, api.Log, []api.CutKind{down, down, stays}},
		{"several masks ahead", []api.Rule{with(1, proto(0, 1)), with(2, proto(1, 3)), with(3, proto(3, 3)), with(4, proto(16, 16))}, api.Deny, []api.CutKind{stays, stays, stays, up}},
	} {
		sameKinds(t, x.name, x.l, x.a, x.want...)
	}
}

// Each action may be the default, and none other than it stands for it.
func TestNeedlessByTheDefault(t *testing.T) {
	for _, a := range actions {
		for _, other := range actions {
			l := []api.Rule{with(1, sport(7, 9), action(a))}
			want := api.CutKind(0)
			if a == other {
				want = api.CutDown
			}
			sameNeedless(t, "by default", l, 0, other, want, api.OK)
			sameNeedless(t, "by one behind", append(l, every(2, other)), 0, a, want, api.OK)
			sameNeedless(t, "by one ahead", []api.Rule{every(2, other), l[0]}, 1, a, api.CutUp, api.OK)
		}
	}
}

func TestNeedless(t *testing.T) {
	draw := drawer(3)
	told := map[api.CutKind]int{}
	several := 0
	for _, l := range lists(5, 14) {
		a := actions[draw(4)]
		for place := range l {
			want := needlessOf(l, place, a)
			told[want]++
			sameNeedless(t, "drawn", l, place, a, want, api.OK)
			if want == api.CutUp && !slices.ContainsFunc(l[:place], func(r api.Rule) bool { return rule.Within(l[place], r) }) {
				several++
			}
		}
	}
	if told[0] < 500 || told[api.CutUp] < 500 || told[api.CutDown] < 200 || several < 20 {
		t.Errorf("too few of a kind: %v, by several %d", told, several)
	}
}

func TestPlacesThatAreNot(t *testing.T) {
	a, b, c, d := letters()
	for _, l := range [][]api.Rule{nil, {}, {a}, {a, b, c, d}, some(64), parted(1, 16, 16, 16, 16, 1)} {
		for _, place := range []int{-1, len(l), len(l) + 1, 64, 65, -64, math.MinInt, math.MaxInt, math.MinInt32, 1 << 32} {
			if 0 <= place && place < len(l) {
				continue
			}
			sameNeedless(t, "no such place", l, place, api.Deny, 0, api.ErrStudyPlace)
		}
	}
}

// Errors, in their order, of both calls.

func TestAnActionThatIsNone(t *testing.T) {
	a, b, _, _ := letters()
	for _, other := range []api.Action{0, 5, -1, math.MaxInt, math.MinInt} {
		for _, l := range [][]api.Rule{nil, {a, b}, {a, a}, {{}}, {with(7, sport(2, 1))}, some(65), parted(1, 129, 129, 129, 129, 256)} {
			refused(t, "no action", l, other, api.ErrRuleAction)
		}
	}
	for _, other := range actions {
		sameNeedless(t, "an action", []api.Rule{a, b}, 1, other, api.CutUp, api.OK)
	}
}

func TestListsThatMayNotBe(t *testing.T) {
	for _, c := range wrongLists() {
		for _, a := range actions {
			refused(t, c.name, c.l, a, c.want)
		}
		refused(t, c.name, c.l, 0, api.ErrRuleAction)
	}
}

func TestManyCells(t *testing.T) {
	for _, counts := range [][]int{{129, 127, 4, 1, 1}, {16, 16, 16, 16, 1}, {1, 1, 128, 128, 4}, {8, 8, 8, 8, 16}} {
		l := parted(1, counts...)
		if n, err := study.Cells(l); n != product(counts) || err != api.OK {
			t.Fatalf("%v: %d, %d", counts, n, err)
		}
		for place := range l {
			if _, err := thin.Needless(l, place, api.Log); err != api.OK {
				t.Errorf("%v: Needless at %d: %d", counts, place, err)
			}
		}
		if _, _, err := thin.Thin(l, api.Log); err != api.OK {
			t.Errorf("%v: Thin: %d", counts, err)
		}
	}
	for _, counts := range [][]int{{113, 29, 20, 1, 1}, {129, 127, 4, 1, 2}, {2, 1, 1, 129, 256}, {129, 129, 129, 129, 256}, {128, 128, 128, 128, 16}} {
		l := parted(1, counts...)
		if product(counts) <= api.MaxCells || len(l) > api.MaxRules {
			t.Fatalf("%v: %d rules", counts, len(l))
		}
		refused(t, "many cells", l, api.Deny, api.ErrStudyMany)
	}
}

// P21.2

func cut(id int, kind api.CutKind) api.Cut { return api.Cut{Id: id, Kind: kind} }

func TestThinByHand(t *testing.T) {
	a, b, c, d := letters()
	up, down := api.CutUp, api.CutDown
	deny, permit := action(api.Deny), action(api.Permit)
	low, high, ten := with(11, src(addr(10, 0, 0, 0), 9), permit), with(12, src(addr(10, 128, 0, 0), 9), permit), with(13, src(addr(10, 0, 0, 0), 8), permit)
	for _, x := range []struct {
		name    string
		l, want []api.Rule
		gone    []api.Cut
	}{
		{"none", nil, nil, nil},
		{"none, but a list", []api.Rule{}, nil, nil},
		{"one stays", []api.Rule{a}, []api.Rule{a}, nil},
		{"one goes", []api.Rule{d}, nil, []api.Cut{cut(4, down)}},
		{"all stay", []api.Rule{c, a}, []api.Rule{c, a}, nil},
		{"the last of two alike", []api.Rule{a, every(9, api.Permit)}, []api.Rule{a}, []api.Cut{cut(9, up)}},
		{"the last of two unlike", []api.Rule{b, c}, []api.Rule{b}, []api.Cut{cut(3, up)}},
		{"the first of two", []api.Rule{b, a}, []api.Rule{a}, []api.Cut{cut(2, down)}},
		{"one amid", []api.Rule{c, b, a}, []api.Rule{c, a}, []api.Cut{cut(2, up)}},
		{"the whole behind its halves", []api.Rule{low, high, ten}, []api.Rule{low, high}, []api.Cut{cut(13, up)}},
		{"the whole between its halves", []api.Rule{low, ten, high}, []api.Rule{ten}, []api.Cut{cut(12, up), cut(11, down)}},
		{"the whole ahead of its halves", []api.Rule{ten, low, high}, []api.Rule{ten}, []api.Cut{cut(12, up), cut(11, up)}},
		{"all by default, apart", []api.Rule{with(7, dport(1, 1), deny), with(5, dport(2, 2), deny), with(6, dport(3, 3), deny)}, nil, []api.Cut{cut(6, down), cut(5, down), cut(7, down)}},
		{"all by default, within one another", []api.Rule{with(7, dport(1, 9), deny), with(5, dport(2, 2), deny), with(6, dport(0, 9), deny)}, nil, []api.Cut{cut(6, down), cut(5, up), cut(7, down)}},
		{"all by default, the same", []api.Rule{d, every(5, api.Deny), every(6, api.Log)}, nil, []api.Cut{cut(6, up), cut(5, up), cut(4, down)}},
	} {
		sameThin(t, x.name, x.l, api.Deny, x.want, x.gone...)
	}
}

// A rule that is needed while another one stands behind it, which goes first.
func TestThinOnceAnotherHasGone(t *testing.T) {
	a, b, c, _ := letters()
	web, tcp := dport(80, 80), proto(6, 255)
	deny, permit := action(api.Deny), action(api.Permit)
	up, down := api.CutUp, api.CutDown
	for _, x := range []struct {
		name    string
		l, want []api.Rule
		gone    []api.Cut
	}{
		{"behind it, of no headers", []api.Rule{b, c, a}, []api.Rule{a}, []api.Cut{cut(3, up), cut(2, down)}},
		{"behind it, by default", []api.Rule{with(7, web, tcp, permit), with(8, web, deny), b}, []api.Rule{b}, []api.Cut{cut(8, down), cut(7, down)}},
		{"two behind it", []api.Rule{b, c, with(8, tcp, web, deny), a}, []api.Rule{a}, []api.Cut{cut(8, up), cut(3, up), cut(2, down)}},
		{"three in turn", []api.Rule{with(21, sport(7, 7), web, tcp, deny), with(22, web, tcp, permit), with(23, web, deny), with(24, sport(7, 7), deny), b}, []api.Rule{with(24, sport(7, 7), deny), b}, []api.Cut{cut(23, down), cut(22, down), cut(21, down)}},
	} {
		if kind, err := thin.Needless(x.l, 0, api.Deny); kind != 0 || err != api.OK {
			t.Errorf("%s: the first one is needless already: %d, %d", x.name, kind, err)
		}
		sameThin(t, x.name, x.l, api.Deny, x.want, x.gone...)
	}
}

// Each rule but the last is needed till the one behind it has gone.
func TestThinInTurn(t *testing.T) {
	l := make([]api.Rule, api.MaxRules)
	var gone []api.Cut
	for i := range l {
		l[i] = every(i+1, actions[i%2])
		gone = append(gone, cut(64-i, api.CutUp))
	}
	gone[63].Kind = api.CutDown
	sameThin(t, "64 of all headers", l, l[0].Action, nil, gone...)
	sameThin(t, "64 of all headers", l, api.Log, l[:1], gone[:63]...)
	for i := range l {
		l[i] = with(i+1, dport(uint16(i), 99), action(api.Deny))
		gone[i].Kind = api.CutUp
	}
	gone[63].Kind = api.CutDown
	sameThin(t, "64 within the first one", l, api.Deny, nil, gone...)
	for i := range l {
		l[i] = with(i+1, dport(uint16(99-i), 99), action(api.Deny))
		gone[i].Kind = api.CutDown
	}
	sameThin(t, "64 within the last one", l, api.Deny, nil, gone...)
	sameThin(t, "64 within the last one", l, api.Log, l[63:], gone[1:]...)
}

func TestThin(t *testing.T) {
	draw := drawer(7)
	some, all, none := 0, 0, 0
	for _, l := range lists(9, 14) {
		a := actions[draw(4)]
		want, gone := thinOf(l, a)
		sameThin(t, "drawn", l, a, want, gone...)
		switch len(gone) {
		case 0:
			none++
		case len(l):
			all++
		default:
			some++
		}
	}
	if some < 200 || all < 20 || none < 20 {
		t.Errorf("of %d lists some go, of %d all, of %d none", some, all, none)
	}
}

// What is told of a rule that goes is Needless' answer of the list that is left by then.
func TestThinTellsWhatNeedlessTold(t *testing.T) {
	draw := drawer(11)
	later := 0
	for _, l := range lists(13, 20) {
		a := actions[draw(4)]
		left, cuts, err := thin.Thin(l, a)
		if err != api.OK {
			t.Fatalf("Thin(%v, %d): %d", l, a, err)
		}
		by := slices.Clone(l)
		for _, c := range cuts {
			place := placeOf(by, c.Id)
			sameNeedless(t, "as it went", by, place, a, c.Kind, api.OK)
			if kind, _ := thin.Needless(l, placeOf(l, c.Id), a); kind == 0 {
				later++
			}
			by = without(by, place)
		}
		if !slices.Equal(by, left) {
			t.Errorf("Thin(%v, %d): %v goes, but %v is left, not %v", l, a, cuts, left, by)
		}
	}
	if later < 50 {
		t.Errorf("only %d may go once others have gone", later)
	}
}

// placeOf is the place of the rule of that Id.
func placeOf(l []api.Rule, id int) int {
	return slices.IndexFunc(l, func(r api.Rule) bool { return r.Id == id })
}

// P21.3

func TestWhatIsLeftDecidesTheSame(t *testing.T) {
	draw := drawer(17)
	gone := 0
	for _, l := range lists(19, 24) {
		for _, a := range actions {
			left, cuts, _ := thin.Thin(l, a)
			gone += len(cuts)
			if h, ok, err := study.Differ(l, left, a); ok || err != api.OK {
				t.Errorf("Thin(%v, %d) = %v: %+v is decided otherwise, %d", l, a, left, h, err)
			}
			for _, h := range near(draw, l, 30) {
				if decides(l, a, h) != decides(left, a, h) {
					t.Errorf("Thin(%v, %d) = %v: %+v is decided otherwise", l, a, left, h)
				}
			}
		}
	}
	if gone < 2000 {
		t.Errorf("only %d went", gone)
	}
}

func TestNothingElseMayGo(t *testing.T) {
	for _, l := range lists(23, 24) {
		for _, a := range actions {
			left, _, _ := thin.Thin(l, a)
			sameKinds(t, "what is left", left, a, make([]api.CutKind, len(left))...)
			sameThin(t, "what is left", left, a, left)
		}
	}
}

func TestNoRuleIsLost(t *testing.T) {
	for _, l := range lists(29, 24) {
		for _, a := range actions {
			left, cuts, _ := thin.Thin(l, a)
			at, went := 0, 0
			for _, r := range l {
				if at < len(left) && left[at] == r {
					at++
				} else if slices.ContainsFunc(cuts, func(c api.Cut) bool { return c.Id == r.Id }) {
					went++
				}
			}
			if at != len(left) || went != len(cuts) || at+went != len(l) {
				t.Errorf("Thin(%v, %d) = %v, %v", l, a, left, cuts)
			}
		}
	}
}

// R2

// told is all that the calls answer.
type told struct {
	left  []api.Rule
	cuts  []api.Cut
	kinds []api.CutKind
	errs  []api.Errno
}

func tell(l []api.Rule, a api.Action) told {
	var all told
	left, cuts, err := thin.Thin(l, a)
	all.left, all.cuts, all.errs = left, cuts, []api.Errno{err}
	for place := -1; place <= len(l); place++ {
		kind, err := thin.Needless(l, place, a)
		all.kinds, all.errs = append(all.kinds, kind), append(all.errs, err)
	}
	return all
}

func (x told) equal(y told) bool {
	return slices.Equal(x.left, y.left) && slices.Equal(x.cuts, y.cuts) && slices.Equal(x.kinds, y.kinds) && slices.Equal(x.errs, y.errs)
}

// asked are lists that are asked about, with and without errors.
func asked() [][]api.Rule {
	a, b, c, d := letters()
	return [][]api.Rule{
		nil, {}, {a}, {d}, {b, a, d}, {c, d}, {c, b, a}, {b, c, a}, some(64), some(65), append(some(3), with(1)), {a, {}}, {with(7, sport(2, 1))},
		parted(1, 16, 16, 16, 17, 1), parted(1, 4, 4, 4, 4, 8),
	}
}

func TestListsStay(t *testing.T) {
	for _, l := range asked() {
		for _, a := range append(slices.Clone(actions), 0) {
			room := append(slices.Clone(l), with(501), api.Rule{}, with(502))
			was := slices.Clone(room)
			tell(room[:len(l)], a)
			if !slices.Equal(room, was) {
				t.Errorf("%v became %v", was, room)
			}
		}
	}
}

func TestAnswersAreNew(t *testing.T) {
	a, b, c, d := letters()
	for _, l := range [][]api.Rule{{c, a}, {c, b, a}, {b, a, d}, {a}, {b, c, a}} {
		was := slices.Clone(l)
		left, cuts, _ := thin.Thin(l, api.Deny)
		want, gone := slices.Clone(left), slices.Clone(cuts)
		other, others, _ := thin.Thin(l, api.Deny)
		clear(left[:cap(left)])
		clear(cuts[:cap(cuts)])
		_, _ = append(left, d), append(cuts, cut(9, api.CutUp))
		if !slices.Equal(other, want) || !slices.Equal(others, gone) || !slices.Equal(l, was) {
			t.Errorf("Thin(%v) shares: %v, %v", was, other, others)
		}
		sameThin(t, "again", l, api.Deny, want, gone...)
		clear(l)
		if !slices.Equal(other, want) {
			t.Errorf("Thin(%v) hangs on the list: %v", was, other)
		}
	}
}

// What was asked ahead changes nothing, errors neither; what a list holds by then is asked about.
func TestSameAgain(t *testing.T) {
	var want []told
	for _, l := range asked() {
		want = append(want, tell(l, api.Deny))
	}
	for range 2 {
		for i, l := range asked() {
			tell(l, api.Permit)
			if got := tell(l, api.Deny); !got.equal(want[i]) {
				t.Errorf("%d: %v, then %v", i, want[i], got)
			}
		}
	}
	a, b, _, _ := letters()
	l := []api.Rule{b, a}
	sameThin(t, "as it is", l, api.Deny, []api.Rule{a}, cut(2, api.CutDown))
	l[1].Action = api.Log
	sameThin(t, "as it became", l, api.Deny, l)
}

func TestAskedFromSeveralSides(t *testing.T) {
	lists := asked()
	var want []told
	for _, l := range lists {
		want = append(want, tell(l, api.Deny))
	}
	var wg sync.WaitGroup
	for range 8 {
		wg.Go(func() {
			for i, l := range lists {
				if got := tell(l, api.Deny); !got.equal(want[i]) {
					t.Errorf("%d: %v, wanted %v", i, got, want[i])
				}
			}
		})
	}
	wg.Wait()
}

// The chapter's table.
func TestExamples(t *testing.T) {
	a, b, c, d := letters()
	sameNeedless(t, "A B", []api.Rule{a, b}, 1, api.Deny, api.CutUp, api.OK)
	sameNeedless(t, "B A", []api.Rule{b, a}, 0, api.Deny, api.CutDown, api.OK)
	sameNeedless(t, "C A", []api.Rule{c, a}, 0, api.Deny, 0, api.OK)
	sameNeedless(t, "A", []api.Rule{a}, 3, api.Deny, 0, api.ErrStudyPlace)
	sameThin(t, "B A D", []api.Rule{b, a, d}, api.Deny, []api.Rule{a}, cut(4, api.CutUp), cut(2, api.CutDown))
	sameThin(t, "C D", []api.Rule{c, d}, api.Deny, nil, cut(4, api.CutDown), cut(3, api.CutDown))
	sameThin(t, "C B A", []api.Rule{c, b, a}, api.Deny, []api.Rule{c, a}, cut(2, api.CutUp))
}
