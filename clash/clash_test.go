package clash_test

import (
	"math"
	"slices"
	"sync"
	"testing"

	"quintet/api"
	"quintet/box"
	"quintet/clash"
	"quintet/rule"
)

const (
	lastAddr = math.MaxUint32
	lastPort = math.MaxUint16
)

var actions = []api.Action{api.Deny, api.Permit, api.Log, api.Queue}

// every is the rule of all headers, written out.
func every(id int, a api.Action) api.Rule {
	return api.Rule{
		Id: id, Src: api.Prefix{Addr: 0, Len: 0}, Dst: api.Prefix{Addr: 0, Len: 0},
		Sport: api.Span{Lo: 0, Hi: lastPort}, Dport: api.Span{Lo: 0, Hi: lastPort},
		Proto: api.Mask{Value: 0, Care: 0}, Action: a,
	}
}

// with is the rule of all headers with some of its fields changed; its action follows from its Id.
func with(id int, changes ...func(*api.Rule)) api.Rule {
	r := every(id, api.Action(1+id%4))
	for _, change := range changes {
		change(&r)
	}
	return r
}

func src(addr uint32, n int) func(*api.Rule) {
	return func(r *api.Rule) { r.Src = pre(addr, n) }
}

func dst(addr uint32, n int) func(*api.Rule) {
	return func(r *api.Rule) { r.Dst = pre(addr, n) }
}

func sport(lo, hi uint16) func(*api.Rule) {
	return func(r *api.Rule) { r.Sport = api.Span{Lo: lo, Hi: hi} }
}

func dport(lo, hi uint16) func(*api.Rule) {
	return func(r *api.Rule) { r.Dport = api.Span{Lo: lo, Hi: hi} }
}

func proto(value, care uint8) func(*api.Rule) {
	return func(r *api.Rule) { r.Proto = api.Mask{Value: value, Care: care} }
}

func action(a api.Action) func(*api.Rule) {
	return func(r *api.Rule) { r.Action = a }
}

// pre is the prefix of so many bits of an address.
func pre(addr uint32, n int) api.Prefix {
	return api.Prefix{Addr: uint32(uint64(addr) >> (32 - n) << (32 - n)), Len: n}
}

func addr(a, b, c, d uint32) uint32 { return a<<24 | b<<16 | c<<8 | d }

// ports is a rule to the ports from .. to.
func ports(id int, lo, hi uint16, a api.Action) api.Rule {
	return with(id, dport(lo, hi), action(a))
}

// letters are the rules A, B, C and D of the chapter's examples.
func letters() (a, b, c, d api.Rule) {
	return ports(1, 80, 81, api.Permit), ports(2, 81, 90, api.Deny), ports(3, 85, 85, api.Permit), ports(4, 7, 7, api.Deny)
}

// What is asked, held against what is wanted.

func sameBetween(t *testing.T, what string, a, b api.Rule, want api.PairKind) {
	t.Helper()
	if got, ok := clash.Between(a, b); got != want || ok != (want != 0) {
		t.Errorf("%s: Between(%v, %v) = %d, %v, wanted %d", what, a, b, got, ok, want)
	}
}

func samePairs(t *testing.T, what string, l []api.Rule, want ...api.Pair) {
	t.Helper()
	if got, err := clash.Pairs(l); !slices.Equal(got, want) || err != api.OK {
		t.Errorf("%s: Pairs(%v) = %v, %d, wanted %v", what, l, got, err, want)
	}
}

func sameGroups(t *testing.T, what string, l []api.Rule, want ...[]int) {
	t.Helper()
	if got, err := clash.Groups(l); !equalGroups(got, want) || err != api.OK {
		t.Errorf("%s: Groups(%v) = %v, %d, wanted %v", what, l, got, err, want)
	}
}

func equalGroups(a, b [][]int) bool {
	return slices.EqualFunc(a, b, func(x, y []int) bool { return slices.Equal(x, y) })
}

// refused asks both calls of lists.
func refused(t *testing.T, what string, l []api.Rule, want api.Errno) {
	t.Helper()
	if pairs, err := clash.Pairs(l); len(pairs) != 0 || err != want {
		t.Errorf("%s: Pairs = %v, %d, wanted %d", what, pairs, err, want)
	}
	if groups, err := clash.Groups(l); len(groups) != 0 || err != want {
		t.Errorf("%s: Groups = %v, %d, wanted %d", what, groups, err, want)
	}
}

// The models.

// begins says by division whether an address is in a prefix that may be.
func begins(p api.Prefix, addr uint32) bool {
	n := uint64(1) << (32 - p.Len)
	return uint64(p.Addr)/n == uint64(addr)/n
}

// matches is DOC.md's word, of a rule that may be.
func matches(r api.Rule, h api.Header) bool {
	return begins(r.Src, h.Src) && begins(r.Dst, h.Dst) &&
		r.Sport.Lo <= h.Sport && h.Sport <= r.Sport.Hi && r.Dport.Lo <= h.Dport && h.Dport <= r.Dport.Hi &&
		(h.Proto^r.Proto.Value)&r.Proto.Care == 0
}

// ranges is the four fields of a rule of addresses and ports, each from .. to, and how great it may be.
func ranges(r api.Rule) [4][3]uint64 {
	last := func(p api.Prefix) uint64 { return uint64(p.Addr) + 1<<(32-p.Len) - 1 }
	return [4][3]uint64{
		{uint64(r.Src.Addr), last(r.Src), lastAddr}, {uint64(r.Dst.Addr), last(r.Dst), lastAddr},
		{uint64(r.Sport.Lo), uint64(r.Sport.Hi), lastPort}, {uint64(r.Dport.Lo), uint64(r.Dport.Hi), lastPort},
	}
}

// protos are all protocols of a mask.
func protos(m api.Mask) []uint8 {
	var all []uint8
	for p := range 256 {
		if (uint8(p)^m.Value)&m.Care == 0 {
			all = append(all, uint8(p))
		}
	}
	return all
}

// within says whether all that b matches a matches, of rules that may be.
func within(b, a api.Rule) bool {
	x, y := ranges(a), ranges(b)
	for i := range x {
		if y[i][0] < x[i][0] || y[i][1] > x[i][1] {
			return false
		}
	}
	has := protos(a.Proto)
	return !slices.ContainsFunc(protos(b.Proto), func(p uint8) bool { return !slices.Contains(has, p) })
}

// meet says whether two rules that may be have a header in common.
func meet(a, b api.Rule) bool {
	x, y := ranges(a), ranges(b)
	for i := range x {
		if max(x[i][0], y[i][0]) > min(x[i][1], y[i][1]) {
			return false
		}
	}
	has := protos(a.Proto)
	return slices.ContainsFunc(protos(b.Proto), func(p uint8) bool { return slices.Contains(has, p) })
}

// betweenOf is the model's Between, of rules that may be; 0, if they don't meet.
func betweenOf(a, b api.Rule) api.PairKind {
	if !meet(a, b) {
		return 0
	}
	kinds := map[bool]map[bool]api.PairKind{
		false: {false: api.PairCross, true: api.PairInside},
		true:  {false: api.PairCovers, true: api.PairTwin},
	}
	return kinds[within(b, a)][within(a, b)]
}

// pairsOf is the model's Pairs, of a list that may be.
func pairsOf(l []api.Rule) []api.Pair {
	var pairs []api.Pair
	for second := range l {
		for first := range second {
			if kind := betweenOf(l[first], l[second]); kind != 0 {
				pairs = append(pairs, api.Pair{First: first, Second: second, Kind: kind, Differ: l[first].Action != l[second].Action})
			}
		}
	}
	slices.SortFunc(pairs, func(p, q api.Pair) int { return 1000*(p.First-q.First) + p.Second - q.Second })
	return pairs
}

// groupsOf is the model's Groups, of a list that may be: from each place that was not met yet all are gone to that are to be reached.
func groupsOf(l []api.Rule) [][]int {
	clashes := func(i, j int) bool { return l[i].Action != l[j].Action && meet(l[i], l[j]) }
	met := make([]bool, len(l))
	var groups [][]int
	for place := range l {
		if met[place] {
			continue
		}
		met[place] = true
		group := []int{place}
		for at := 0; at < len(group); at++ {
			for next := range l {
				if !met[next] && clashes(group[at], next) {
					met[next] = true
					group = append(group, next)
				}
			}
		}
		slices.Sort(group)
		groups = append(groups, group)
	}
	return groups
}

// boxOf is the box of a rule that may be.
func boxOf(r api.Rule) api.Box {
	b, _ := rule.Box(r)
	return b
}

// alone is a header that one rule matches and another one does not.
func alone(a, b api.Rule) (api.Header, bool) {
	rest := box.Less(boxOf(a), boxOf(b))
	if len(rest) == 0 {
		return api.Header{}, false
	}
	h, _ := box.First(rest[0])
	return h, true
}

// Rules and headers that are drawn.

// drawer gives numbers by a rule that goes all about, the same each time.
func drawer(state uint64) func(n int) int {
	return func(n int) int {
		state = state*6364136223846793005 + 1442695040888963407
		return int(state >> 33 % uint64(n))
	}
}

// drawPrefix cuts one of few addresses, so that many of the prefixes lie within one another; /0 and /32 are frequent.
func drawPrefix(draw func(int) int) api.Prefix {
	at := []uint32{addr(10, 1, 2, 3), addr(10, 1, 2, 2), addr(138, 200, 0, 1), 0, lastAddr, 1 << 31}[draw(6)]
	return pre(at, []int{0, 1, 32, 8, 31, 2, draw(33)}[draw(7)])
}

// drawSpan has few ends, so that many are alike, lie within one another, or beside one another.
func drawSpan(draw func(int) int) api.Span {
	ends := []uint16{0, 1, 79, 80, 81, 1023, 1024, lastPort - 1, lastPort}
	a, b := ends[draw(len(ends))], ends[draw(len(ends))]
	return api.Span{Lo: min(a, b), Hi: max(a, b)}
}

func drawMask(draw func(int) int) api.Mask {
	care := uint8(draw(256))
	some := api.Mask{Value: uint8(draw(256)) & care, Care: care}
	return []api.Mask{{}, {Value: 6, Care: 255}, {Value: 1, Care: 1}, {Care: 1}, {Care: 0x80}, {Value: 0x81, Care: 0x81}, {Value: 255, Care: 255}, some}[draw(8)]
}

// drawRules are n rules that may be, the Ids from 1 on, of which some fields alone, as the bits of which tell, are unlike all.
func drawRules(draw func(int) int, n, which int) []api.Rule {
	l := make([]api.Rule, n)
	for i := range l {
		p, q, s, d, m := drawPrefix(draw), drawPrefix(draw), drawSpan(draw), drawSpan(draw), drawMask(draw)
		l[i] = every(i+1, api.Action(1+draw(4)))
		for j, set := range []func(){func() { l[i].Src = p }, func() { l[i].Dst = q }, func() { l[i].Sport = s }, func() { l[i].Dport = d }, func() { l[i].Proto = m }} {
			if which>>j&1 == 1 && draw(4) > 0 {
				set()
			}
		}
	}
	return l
}

// drawLoose are n rules to few ports each, so that many don't meet, and long chains are needed.
func drawLoose(draw func(int) int, n int) []api.Rule {
	l := make([]api.Rule, n)
	for i := range l {
		from := uint16(draw(3 * n))
		l[i] = ports(i+1, from, from+uint16(draw(4)), api.Action(1+draw(2)))
	}
	return l
}

// lists are lists of rules that may be: of each set of fields some, short and long ones.
func lists(state uint64) [][]api.Rule {
	draw := drawer(state)
	a, b, c, d := letters()
	all := [][]api.Rule{nil, {}, {a}, {every(api.MaxId, api.Queue), b}, {a, b, c, d}, {d, c, b, a}, {b, c, a, d}}
	for which := range 32 {
		all = append(all, drawRules(draw, 1+draw(6), which), drawRules(draw, 1+draw(64), which), drawLoose(draw, 1+draw(64)))
	}
	return append(all, drawRules(draw, 64, 31), drawLoose(draw, 64))
}

// near are n headers, drawn from where the rules' fields begin and end, and from beside that; mostly of two rules.
func near(draw func(int) int, l []api.Rule, n int) []api.Header {
	l = append([]api.Rule{every(1, api.Deny)}, l...)
	heads := make([]api.Header, n)
	for i := range heads {
		a, b := l[draw(len(l))], l[draw(len(l))]
		if draw(3) == 0 {
			b = a
		}
		x, y := ranges(a), ranges(b)
		at := func(f [3]uint64) uint64 { return []uint64{f[0], f[1], f[0] - 1, f[1] + 1}[draw(10)%4] }
		heads[i] = api.Header{
			Src: uint32(at(x[0])), Dst: uint32(at(y[1])), Sport: uint16(at(x[2])), Dport: uint16(at(y[3])),
			Proto: []uint8{a.Proto.Value, b.Proto.Value, a.Proto.Value | ^a.Proto.Care, ^a.Proto.Value}[draw(4)],
		}
	}
	return heads
}

// Errors of lists.

// wrongRule is a rule that may not be, and why.
type wrongRule struct {
	r    api.Rule
	want api.Errno
}

// wrongRules are rules of that Id that may not be, one field each.
func wrongRules(id int) []wrongRule {
	return []wrongRule{
		{api.Rule{}, api.ErrRuleId},
		{with(0), api.ErrRuleId},
		{every(-5, api.Log), api.ErrRuleId},
		{with(api.MaxId + 1), api.ErrRuleId},
		{with(0, sport(2, 1)), api.ErrRuleId},
		{with(id, func(r *api.Rule) { r.Src.Len = 33 }), api.ErrPrefixLen},
		{with(id, func(r *api.Rule) { r.Src.Len = math.MinInt }), api.ErrPrefixLen},
		{with(id, func(r *api.Rule) { r.Dst.Len = -1 }), api.ErrPrefixLen},
		{with(id, func(r *api.Rule) { r.Src = api.Prefix{Addr: 1, Len: 31} }), api.ErrPrefixBits},
		{with(id, func(r *api.Rule) { r.Dst = api.Prefix{Addr: 1 << 31} }), api.ErrPrefixBits},
		{with(id, sport(2, 1)), api.ErrSpanEnds},
		{with(id, dport(lastPort, 0)), api.ErrSpanEnds},
		{with(id, proto(2, 1)), api.ErrMaskBits},
		{with(id, action(0)), api.ErrRuleAction},
		{with(id, action(5)), api.ErrRuleAction},
		{with(id, action(-1)), api.ErrRuleAction},
	}
}

// some are n rules that may be, the Ids from 1 on, of which none meet.
func some(n int) []api.Rule {
	l := make([]api.Rule, n)
	for i := range l {
		l[i] = with(i+1, src(uint32(i)<<24, 8))
	}
	return l
}

// more is a list with another rule at a place.
func more(l []api.Rule, place int, r api.Rule) []api.Rule {
	return slices.Insert(slices.Clone(l), place, r)
}

// wrongLists are lists that may not be, and why.
func wrongLists() []struct {
	name string
	l    []api.Rule
	want api.Errno
} {
	type wrong = struct {
		name string
		l    []api.Rule
		want api.Errno
	}
	l := some(8)
	var list []wrong
	for _, w := range wrongRules(99) {
		list = append(list, wrong{"a wrong rule alone", []api.Rule{w.r}, w.want})
		for place := range len(l) + 1 {
			list = append(list, wrong{"a wrong rule", more(l, place, w.r), w.want})
		}
		list = append(list,
			wrong{"a wrong rule ahead of a double one", append(more(l, 3, w.r), l[0]), w.want},
			wrong{"a wrong rule as the 65th", append(some(64), w.r), w.want},
			wrong{"a wrong rule as the 66th", append(some(65), w.r), api.ErrTableFull},
			wrong{"a wrong rule behind a double one", append(slices.Clone(l), l[7], w.r), api.ErrTableTwice},
			wrong{"a wrong rule behind another one", append(slices.Clone(l), with(98, sport(9, 8)), w.r), api.ErrSpanEnds})
	}
	return append(list,
		wrong{"a rule twice", []api.Rule{l[0], l[0]}, api.ErrTableTwice},
		wrong{"an Id twice", []api.Rule{l[0], l[1], with(1, dport(80, 80))}, api.ErrTableTwice},
		wrong{"an Id twice, at the front and the end", append(some(63), with(1)), api.ErrTableTwice},
		wrong{"an Id twice, as the 65th", append(some(64), l[0]), api.ErrTableTwice},
		wrong{"an Id twice, as the 66th", append(some(65), l[0]), api.ErrTableFull},
		wrong{"65", some(65), api.ErrTableFull},
		wrong{"65 of one header", append(some(64), with(1000, src(1, 32), dst(2, 32), sport(3, 3), dport(4, 4), proto(5, 255))), api.ErrTableFull},
		wrong{"very many", some(100000), api.ErrTableFull},
	)
}

func TestListsThatMayNotBe(t *testing.T) {
	for _, c := range wrongLists() {
		refused(t, c.name, c.l, c.want)
	}
}

// P22.1

// fields are, of each field, a part and a greater one, one that is apart from both, and one that has some of the greater one and some beside it (a field of which no two lie so has none).
func fields() []struct {
	name                       string
	less, whole, apart, across func(*api.Rule)
} {
	type field = struct {
		name                       string
		less, whole, apart, across func(*api.Rule)
	}
	ten, eleven := addr(10, 0, 0, 0), addr(11, 0, 0, 0)
	return []field{
		{"source", src(ten, 9), src(ten, 8), src(eleven, 8), nil},
		{"source, one address", src(lastAddr, 32), src(lastAddr, 31), src(lastAddr-2, 31), nil},
		{"source, halves of all", src(0, 32), src(0, 1), src(1<<31, 1), nil},
		{"destination", dst(ten, 9), dst(ten, 8), dst(eleven, 8), nil},
		{"destination, one address", dst(lastAddr, 32), dst(lastAddr, 31), dst(lastAddr-2, 31), nil},
		{"source port", sport(80, 81), sport(80, 90), sport(91, 99), sport(90, 91)},
		{"source port, within both ends", sport(81, 81), sport(80, 82), sport(0, 79), sport(0, 80)},
		{"source port, at the end", sport(lastPort, lastPort), sport(1, lastPort), sport(0, 0), sport(0, 1)},
		{"destination port", dport(80, 81), dport(80, 90), dport(91, 99), dport(90, 91)},
		{"destination port, within both ends", dport(81, 81), dport(80, 82), dport(0, 79), dport(0, 80)},
		{"protocol", proto(6, 255), proto(6, 0xf), proto(17, 255), proto(16, 0xf0)},
		{"protocol, one bit", proto(0x81, 0x81), proto(1, 1), proto(0x80, 0x81), proto(0x80, 0x80)},
	}
}

func TestBetweenInEachField(t *testing.T) {
	for _, f := range fields() {
		less, whole, apart, all := with(1, f.less), with(2, f.whole), with(3, f.apart), with(4)
		sameBetween(t, f.name, less, less, api.PairTwin)
		sameBetween(t, f.name, whole, with(9, f.whole), api.PairTwin)
		sameBetween(t, f.name, whole, less, api.PairCovers)
		sameBetween(t, f.name, less, whole, api.PairInside)
		sameBetween(t, f.name, all, less, api.PairCovers)
		sameBetween(t, f.name, apart, all, api.PairInside)
		for _, r := range []api.Rule{less, whole} {
			sameBetween(t, f.name+", apart", r, apart, 0)
			sameBetween(t, f.name+", apart", apart, r, 0)
		}
		if f.across != nil {
			across := with(5, f.across)
			sameBetween(t, f.name+", across", whole, across, api.PairCross)
			sameBetween(t, f.name+", across", across, whole, api.PairCross)
		}
	}
}

// What one field lets be another one may take away: each two of them together.
func TestBetweenInTwoFields(t *testing.T) {
	for i, f := range fields() {
		for j, g := range fields() {
			if f.name[:6] == g.name[:6] || i == j {
				continue
			}
			what := f.name + " and " + g.name
			sameBetween(t, what, with(1, f.whole, g.whole), with(2, f.less, g.less), api.PairCovers)
			sameBetween(t, what, with(1, f.less, g.less), with(2, f.whole, g.whole), api.PairInside)
			sameBetween(t, what, with(1, f.whole, g.less), with(2, f.whole, g.less), api.PairTwin)
			sameBetween(t, what, with(1, f.whole, g.less), with(2, f.less, g.whole), api.PairCross)
			sameBetween(t, what, with(1, f.whole), with(2, g.whole), api.PairCross)
			sameBetween(t, what, with(1, f.whole, g.whole), with(2, f.whole), api.PairInside)
			sameBetween(t, what, with(1, f.whole, g.whole), with(2, f.less, g.apart), 0)
			sameBetween(t, what, with(1, f.apart, g.less), with(2, f.less, g.less), 0)
		}
	}
}

// Ids and actions change nothing; the same ones neither.
func TestBetweenLooksAtTheSetsAlone(t *testing.T) {
	a, b, c, d := letters()
	for _, id := range []int{1, 7, api.MaxId} {
		for _, of := range actions {
			other := func(r api.Rule) api.Rule { r.Id, r.Action = id, of; return r }
			sameBetween(t, "twins", a, other(a), api.PairTwin)
			sameBetween(t, "covers", b, other(c), api.PairCovers)
			sameBetween(t, "inside", c, other(b), api.PairInside)
			sameBetween(t, "cross", a, other(b), api.PairCross)
			sameBetween(t, "apart", a, other(d), 0)
		}
	}
}

func TestBetweenOfRulesThatMayNotBe(t *testing.T) {
	a, _, _, _ := letters()
	for _, w := range wrongRules(99) {
		for _, r := range []api.Rule{a, every(1, api.Deny), every(99, api.Log), w.r} {
			sameBetween(t, "the second one may not be", r, w.r, 0)
			sameBetween(t, "the first one may not be", w.r, r, 0)
		}
		for _, v := range wrongRules(98) {
			sameBetween(t, "neither may be", w.r, v.r, 0)
		}
	}
}

func TestBetween(t *testing.T) {
	told := map[api.PairKind]int{}
	for _, l := range lists(3) {
		for _, a := range l {
			for _, b := range l {
				want := betweenOf(a, b)
				told[want]++
				sameBetween(t, "drawn", a, b, want)
			}
		}
	}
	for kind := range api.PairCross + 1 {
		if told[kind] < 500 {
			t.Errorf("too few of a kind: %v", told)
		}
	}
}

// P22.2

func pair(first, second int, kind api.PairKind, differ bool) api.Pair {
	return api.Pair{First: first, Second: second, Kind: kind, Differ: differ}
}

func TestPairsByHand(t *testing.T) {
	a, b, c, d := letters()
	twin, covers, inside, cross := api.PairTwin, api.PairCovers, api.PairInside, api.PairCross
	all := every(9, api.Permit)
	for _, x := range []struct {
		name string
		l    []api.Rule
		want []api.Pair
	}{
		{"none", nil, nil},
		{"none, but a list", []api.Rule{}, nil},
		{"one", []api.Rule{a}, nil},
		{"one of all", []api.Rule{all}, nil},
		{"two apart", []api.Rule{a, d}, nil},
		{"two apart, unlike", []api.Rule{a, c}, nil},
		{"two that cross", []api.Rule{a, b}, []api.Pair{pair(0, 1, cross, true)}},
		{"the other way round", []api.Rule{b, a}, []api.Pair{pair(0, 1, cross, true)}},
		{"two that cross, alike", []api.Rule{a, ports(7, 81, 90, api.Permit)}, []api.Pair{pair(0, 1, cross, false)}},
		{"the greater one ahead", []api.Rule{b, c}, []api.Pair{pair(0, 1, covers, true)}},
		{"the greater one behind", []api.Rule{c, b}, []api.Pair{pair(0, 1, inside, true)}},
		{"the greater one ahead, alike", []api.Rule{all, c}, []api.Pair{pair(0, 1, covers, false)}},
		{"the greater one behind, alike", []api.Rule{c, all}, []api.Pair{pair(0, 1, inside, false)}},
		{"twins", []api.Rule{a, ports(7, 80, 81, api.Log)}, []api.Pair{pair(0, 1, twin, true)}},
		{"twins, alike", []api.Rule{a, ports(7, 80, 81, api.Permit)}, []api.Pair{pair(0, 1, twin, false)}},
		{"the first and the last one", []api.Rule{a, d, c, b}, []api.Pair{pair(0, 3, cross, true), pair(2, 3, inside, true)}},
		{"one meets all", []api.Rule{a, c, d, all}, []api.Pair{pair(0, 3, inside, false), pair(1, 3, inside, false), pair(2, 3, inside, true)}},
		{"all meet one", []api.Rule{all, a, c, d}, []api.Pair{pair(0, 1, covers, false), pair(0, 2, covers, false), pair(0, 3, covers, true)}},
		{"all of four", []api.Rule{b, all, every(8, api.Log), c}, []api.Pair{pair(0, 1, inside, true), pair(0, 2, inside, true), pair(0, 3, covers, true), pair(1, 2, twin, true), pair(1, 3, covers, false), pair(2, 3, covers, true)}},
	} {
		samePairs(t, x.name, x.l, x.want...)
	}
}

// Each two actions, and each alone.
func TestPairsTellWhetherActionsDiffer(t *testing.T) {
	for _, a := range actions {
		for _, b := range actions {
			samePairs(t, "twins", []api.Rule{every(1, a), every(2, b)}, pair(0, 1, api.PairTwin, a != b))
			samePairs(t, "covers", []api.Rule{every(1, a), ports(2, 1, 2, b)}, pair(0, 1, api.PairCovers, a != b))
			samePairs(t, "cross", []api.Rule{with(1, src(0, 1), action(a)), ports(2, 1, 2, b)}, pair(0, 1, api.PairCross, a != b))
			samePairs(t, "apart", []api.Rule{ports(1, 3, 4, a), ports(2, 1, 2, b)})
		}
	}
}

// 64 rules, of which each two meet, or none do.
func TestPairsOfAllAndOfNone(t *testing.T) {
	l := make([]api.Rule, api.MaxRules)
	var want []api.Pair
	for i := range l {
		l[i] = ports(i+1, 99-uint16(i), 99, actions[i%2])
		for j := i + 1; j < len(l); j++ {
			want = append(want, pair(i, j, api.PairInside, (i+j)%2 == 1))
		}
	}
	samePairs(t, "each within those behind it", l, want...)
	slices.Reverse(l)
	for i := range want {
		want[i].Kind = api.PairCovers
	}
	samePairs(t, "each within those ahead of it", l, want...)
	samePairs(t, "none meet", some(64))
}

func TestPairs(t *testing.T) {
	for _, l := range lists(5) {
		samePairs(t, "drawn", l, pairsOf(l)...)
	}
}

// P22.3

func TestGroupsByHand(t *testing.T) {
	a, b, c, d := letters()
	for _, x := range []struct {
		name string
		l    []api.Rule
		want [][]int
	}{
		{"none", nil, nil},
		{"none, but a list", []api.Rule{}, nil},
		{"one", []api.Rule{a}, [][]int{{0}}},
		{"all alone", []api.Rule{a, c, d}, [][]int{{0}, {1}, {2}}},
		{"two that clash", []api.Rule{b, c}, [][]int{{0, 1}}},
		{"twins that clash", []api.Rule{a, ports(7, 80, 81, api.Log)}, [][]int{{0, 1}}},
		{"twins that don't clash", []api.Rule{a, ports(7, 80, 81, api.Permit)}, [][]int{{0}, {1}}},
		{"two that cross and don't clash", []api.Rule{a, ports(7, 81, 90, api.Permit)}, [][]int{{0}, {1}}},
		{"one amid is alone", []api.Rule{a, d, b}, [][]int{{0, 2}, {1}}},
		{"the first one is alone", []api.Rule{d, a, b}, [][]int{{0}, {1, 2}}},
		{"two groups, one within the other", []api.Rule{a, d, ports(8, 0, 10, api.Log), b}, [][]int{{0, 3}, {1, 2}}},
		{"two groups in turn", []api.Rule{a, d, b, ports(8, 0, 10, api.Log)}, [][]int{{0, 2}, {1, 3}}},
		{"a chain through the last one", []api.Rule{a, c, b}, [][]int{{0, 1, 2}}},
		{"two alike by a third one", []api.Rule{every(1, api.Permit), every(2, api.Permit), d}, [][]int{{0, 1, 2}}},
		{"two alike without a third one", []api.Rule{every(1, api.Permit), every(2, api.Permit), ports(3, 1, 2, api.Permit)}, [][]int{{0}, {1}, {2}}},
		{"a chain of those that meet, of which two don't clash", []api.Rule{ports(1, 1, 2, api.Deny), ports(2, 2, 3, api.Log), ports(3, 3, 4, api.Log), ports(4, 4, 5, api.Deny)}, [][]int{{0, 1}, {2, 3}}},
		{"all by the last one", []api.Rule{c, d, a, b, every(8, api.Log)}, [][]int{{0, 1, 2, 3, 4}}},
	} {
		sameGroups(t, x.name, x.l, x.want...)
	}
}

// run is the places from .. to, by steps.
func run(from, to, step int) []int {
	var places []int
	for place := from; place <= to; place += step {
		places = append(places, place)
	}
	return places
}

// chain is a list in which each rule clashes with those just below and above it, by ports; places tells where the links stand.
func chain(places ...int) []api.Rule {
	l := make([]api.Rule, len(places))
	for link, place := range places {
		l[place] = ports(place+1, uint16(10*link), uint16(10*link+10), actions[link%2])
	}
	return l
}

func TestGroupsThatAreJoinedLate(t *testing.T) {
	sameGroups(t, "a chain in order", chain(run(0, 63, 1)...), run(0, 63, 1))
	sameGroups(t, "a chain from its end", chain(0, 2, 1), run(0, 2, 1))
	sameGroups(t, "two chains, joined by the last rule", chain(1, 3, 5, 4, 2, 0), run(0, 5, 1))
	sameGroups(t, "the first place at the chain's end", chain(1, 2, 3, 4, 5, 6, 0), run(0, 6, 1))
	sameGroups(t, "the first place amid the chain", chain(5, 3, 1, 0, 2, 4, 6), run(0, 6, 1))
	var halves, zigzag []int
	for i := range 32 {
		halves = append(halves, i, 32+i)
		zigzag = append(zigzag, i, 63-i)
	}
	sameGroups(t, "each by one far behind", chain(halves...), run(0, 63, 1))
	sameGroups(t, "from both ends", chain(zigzag...), run(0, 63, 1))
	slices.Reverse(zigzag)
	sameGroups(t, "from amid", chain(zigzag...), run(0, 63, 1))
}

// Without one link a chain is two groups.
func TestGroupsOfABrokenChain(t *testing.T) {
	odd, even := run(1, 63, 2), run(0, 62, 2)
	l := chain(append(slices.Clone(odd), even...)...)
	sameGroups(t, "whole", l, run(0, 63, 1))
	l[0].Dport.Lo += 11
	l[0].Dport.Hi += 11
	sameGroups(t, "the link has gone on", l, even, odd)
	l = chain(append(slices.Clone(odd), even...)...)
	for _, place := range even {
		l[place].Action = api.Action(5 - l[place].Action)
	}
	sameGroups(t, "the link is done otherwise", l, run(0, 63, 1))
	l[0].Action = l[63].Action
	sameGroups(t, "the link is done alike", l, even, odd)
}

// Many groups of two, the second ones in the order of the first ones, and the other way round.
func TestGroupsOfTwo(t *testing.T) {
	l := make([]api.Rule, api.MaxRules)
	var same, back [][]int
	for i := range 32 {
		l[i] = ports(i+1, uint16(i), uint16(i), api.Deny)
		l[32+i] = ports(33+i, uint16(i), uint16(i), api.Log)
		same = append(same, []int{i, 32 + i})
		back = append(back, []int{i, 63 - i})
	}
	sameGroups(t, "in the same order", l, same...)
	slices.Reverse(l[32:])
	sameGroups(t, "the other way round", l, back...)
}

func TestGroupsOfAllAndOfNone(t *testing.T) {
	alike, unlike := make([]api.Rule, api.MaxRules), make([]api.Rule, api.MaxRules)
	var single [][]int
	for i := range alike {
		alike[i], unlike[i] = every(i+1, api.Queue), every(i+1, actions[i%4])
		single = append(single, []int{i})
	}
	sameGroups(t, "64 that don't meet", some(64), single...)
	sameGroups(t, "64 that don't clash", alike, single...)
	sameGroups(t, "64 of all headers", unlike, run(0, 63, 1))
	alike[63].Action = api.Deny
	sameGroups(t, "all by the last one", alike, run(0, 63, 1))
}

func TestGroups(t *testing.T) {
	several, alone := 0, 0
	for _, l := range lists(7) {
		want := groupsOf(l)
		sameGroups(t, "drawn", l, want...)
		for _, group := range want {
			if len(group) > 2 {
				several++
			} else if len(group) == 1 {
				alone++
			}
		}
	}
	if several < 100 || alone < 100 {
		t.Errorf("of the groups only %d have more than two places, %d one", several, alone)
	}
}

// P22.4

func TestBetweenExchanged(t *testing.T) {
	back := []api.PairKind{0, api.PairTwin, api.PairInside, api.PairCovers, api.PairCross}
	for _, l := range lists(11) {
		for _, a := range l {
			sameBetween(t, "itself", a, a, api.PairTwin)
			for _, b := range l {
				kind, ok := clash.Between(a, b)
				if other, same := clash.Between(b, a); other != back[kind] || same != ok {
					t.Errorf("Between(%v, %v) = %d, %v, exchanged %d, %v", a, b, kind, ok, other, same)
				}
			}
		}
	}
}

// What a kind says is seen by headers: of each rule one that the other one does not match, where there is to be one.
func TestKindsAreSeenByHeaders(t *testing.T) {
	for _, l := range lists(13) {
		pairs, _ := clash.Pairs(l)
		for _, p := range pairs {
			a, b := l[p.First], l[p.Second]
			h, both := rule.Meets(a, b)
			one, first := alone(a, b)
			other, second := alone(b, a)
			if !both || !matches(a, h) || !matches(b, h) {
				t.Errorf("%v and %v are told as a pair, but don't meet", a, b)
			}
			if first != (p.Kind == api.PairCovers || p.Kind == api.PairCross) || first && (!matches(a, one) || matches(b, one)) {
				t.Errorf("%v and %v are told as %d; the first one alone: %v, %v", a, b, p.Kind, one, first)
			}
			if second != (p.Kind == api.PairInside || p.Kind == api.PairCross) || second && (!matches(b, other) || matches(a, other)) {
				t.Errorf("%v and %v are told as %d; the second one alone: %v, %v", a, b, p.Kind, other, second)
			}
		}
	}
}

// matching are the places of all rules that match a header.
func matching(l []api.Rule, h api.Header) []int {
	var places []int
	for place, r := range l {
		if matches(r, h) {
			places = append(places, place)
		}
	}
	return places
}

// What is matched by two rules makes them a pair; of rules of unlike actions it makes one group.
func TestWhatIsMatchedByTwoMakesAPair(t *testing.T) {
	draw := drawer(17)
	met, unlike := 0, 0
	for _, l := range lists(19) {
		pairs, _ := clash.Pairs(l)
		groups, _ := clash.Groups(l)
		for _, h := range near(draw, l, 60) {
			places := matching(l, h)
			for i, second := range places {
				for _, first := range places[:i] {
					met++
					at := slices.IndexFunc(pairs, func(p api.Pair) bool { return p.First == first && p.Second == second })
					if at < 0 {
						t.Fatalf("%v: %d and %d both match %v, but are no pair", l, first, second, h)
					}
					if pairs[at].Differ {
						unlike++
						if groupOf(groups, first) != groupOf(groups, second) {
							t.Errorf("%v: %d and %d clash, but are in two groups of %v", l, first, second, groups)
						}
					}
				}
			}
		}
	}
	if met < 1000 || unlike < 1000 {
		t.Errorf("only %d met, %d of them unlike", met, unlike)
	}
}

// groupOf is the number of the group that has a place; -1, if none does.
func groupOf(groups [][]int, place int) int {
	return slices.IndexFunc(groups, func(group []int) bool { return slices.Contains(group, place) })
}

func TestEachPlaceIsInOneGroup(t *testing.T) {
	for _, l := range lists(23) {
		groups, err := clash.Groups(l)
		var places []int
		before := -1
		for _, group := range groups {
			if len(group) == 0 || !slices.IsSorted(group) || group[0] <= before {
				t.Fatalf("Groups(%v) = %v, %d", l, groups, err)
			}
			before = group[0]
			places = append(places, group...)
		}
		slices.Sort(places)
		if !slices.Equal(places, run(0, len(l)-1, 1)) {
			t.Errorf("Groups(%v) = %v, %d", l, groups, err)
		}
		pairs, _ := clash.Pairs(l)
		for _, p := range pairs {
			if p.Differ && groupOf(groups, p.First) != groupOf(groups, p.Second) {
				t.Errorf("Groups(%v) = %v, but %d and %d clash", l, groups, p.First, p.Second)
			}
		}
	}
}

// R2

// told is all that the calls answer.
type told struct {
	pairs  []api.Pair
	groups [][]int
	kinds  []api.PairKind
	errs   [2]api.Errno
}

func tell(l []api.Rule) told {
	var all told
	all.pairs, all.errs[0] = clash.Pairs(l)
	all.groups, all.errs[1] = clash.Groups(l)
	for i := range min(len(l), 8) {
		kind, _ := clash.Between(l[i], l[len(l)-1-i])
		all.kinds = append(all.kinds, kind)
	}
	return all
}

func (x told) equal(y told) bool {
	return slices.Equal(x.pairs, y.pairs) && equalGroups(x.groups, y.groups) && slices.Equal(x.kinds, y.kinds) && x.errs == y.errs
}

// asked are lists that are asked about, with and without errors.
func asked() [][]api.Rule {
	a, b, c, d := letters()
	return [][]api.Rule{
		nil, {}, {a}, {d}, {a, b, c, d}, {d, c, b, a}, {a, c, d}, some(64), some(65), append(some(3), with(1)), {a, {}}, {with(7, sport(2, 1))},
		chain(1, 3, 5, 4, 2, 0), chain(run(0, 63, 1)...), drawRules(drawer(29), 64, 31),
	}
}

func TestListsStay(t *testing.T) {
	for _, l := range asked() {
		room := append(slices.Clone(l), with(501), api.Rule{}, with(502))
		was := slices.Clone(room)
		tell(room[:len(l)])
		if !slices.Equal(room, was) {
			t.Errorf("%v became %v", was, room)
		}
	}
}

func TestAnswersAreNew(t *testing.T) {
	for _, l := range asked() {
		was, want := slices.Clone(l), tell(l)
		one, other := tell(l), tell(l)
		spoil(one)
		if !other.equal(want) || !slices.Equal(l, was) {
			t.Errorf("what is told of %v shares: %v", was, other)
		}
		if again := tell(l); !again.equal(want) {
			t.Errorf("what is told of %v is kept: %v", was, again)
		}
		clear(l)
		if !other.equal(want) {
			t.Errorf("what is told of %v hangs on the list: %v", was, other)
		}
	}
}

// spoil writes into all of an answer, its spare room too.
func spoil(x told) {
	clear(x.pairs[:cap(x.pairs)])
	for _, group := range x.groups {
		group = group[:cap(group)]
		for i := range group {
			group[i] = -7
		}
	}
	clear(x.groups[:cap(x.groups)])
}

// Groups of one answer share no memory: what is added to one of them, or written into it, is in none of the others.
func TestGroupsAreApart(t *testing.T) {
	for _, l := range lists(31) {
		groups, _ := clash.Groups(l)
		want := make([][]int, len(groups))
		for i, group := range groups {
			want[i] = slices.Clone(group)
		}
		for i, group := range groups {
			was := slices.Clone(group)
			clear(append(group, 99, 99, 99))
			clear(group[:cap(group)])
			copy(group, was)
			if !equalGroups(groups, want) {
				t.Fatalf("Groups(%v): group %d shares with another one: %v", l, i, groups)
			}
		}
	}
}

// What was asked ahead changes nothing, errors neither; what a list holds by then is asked about.
func TestSameAgain(t *testing.T) {
	var want []told
	for _, l := range asked() {
		want = append(want, tell(l))
	}
	for range 2 {
		for i, l := range asked() {
			if got := tell(l); !got.equal(want[i]) {
				t.Errorf("%d: %v, then %v", i, want[i], got)
			}
		}
	}
	a, b, _, _ := letters()
	l := []api.Rule{a, b}
	samePairs(t, "as it is", l, pair(0, 1, api.PairCross, true))
	sameGroups(t, "as it is", l, []int{0, 1})
	l[1].Action, l[1].Dport.Lo = api.Permit, 80
	samePairs(t, "as it became", l, pair(0, 1, api.PairInside, false))
	sameGroups(t, "as it became", l, []int{0}, []int{1})
}

func TestAskedFromSeveralSides(t *testing.T) {
	lists := asked()
	var want []told
	for _, l := range lists {
		want = append(want, tell(l))
	}
	var wg sync.WaitGroup
	for range 8 {
		wg.Go(func() {
			for i, l := range lists {
				if got := tell(l); !got.equal(want[i]) {
					t.Errorf("%d: %v, wanted %v", i, got, want[i])
				}
			}
		})
	}
	wg.Wait()
}

// The chapter's table.
func TestExamples(t *testing.T) {
	a, b, c, d := letters()
	sameBetween(t, "A B", a, b, api.PairCross)
	sameBetween(t, "B C", b, c, api.PairCovers)
	sameBetween(t, "C B", c, b, api.PairInside)
	sameBetween(t, "A D", a, d, 0)
	sameBetween(t, "A A", a, a, api.PairTwin)
	samePairs(t, "A B C D", []api.Rule{a, b, c, d}, pair(0, 1, api.PairCross, true), pair(1, 2, api.PairCovers, true))
	sameGroups(t, "A B C D", []api.Rule{a, b, c, d}, []int{0, 1, 2}, []int{3})
	sameGroups(t, "A C D", []api.Rule{a, c, d}, []int{0}, []int{1}, []int{2})
	sameGroups(t, "none", nil)
}
