package nest_test

import (
	"math"
	"slices"
	"testing"

	"quintet/api"
	"quintet/expand"
	"quintet/nest"
	"quintet/rule"
	"quintet/table"
)

const lastPort = math.MaxUint16

func s(lo, hi uint16) api.Span { return api.Span{Lo: lo, Hi: hi} }

func pre(addr uint32, n int) api.Prefix { return api.Prefix{Addr: addr, Len: n} }

// drawer gives numbers below n, always the same ones.
func drawer(state uint64) func(n int) int {
	return func(n int) int {
		state = state*6364136223846793005 + 1442695040888963407
		return int(state >> 31 % uint64(n))
	}
}

// The spans' models: by the chapter's words, one span held against another.

// meet tells whether two spans that may be have a port in common.
func meet(a, b api.Span) bool { return !(a.Hi < b.Lo || b.Hi < a.Lo) }

// goesAhead is the order in which spans are gone through.
func goesAhead(a, b api.Span) bool { return a.Lo < b.Lo || a.Lo == b.Lo && a.Hi > b.Hi }

// gone are the unlike spans of a list: each is put behind all that go ahead of it.
func gone(l []api.Span) []api.Span {
	var order []api.Span
	for _, x := range l {
		at := 0
		for at < len(order) && goesAhead(order[at], x) {
			at++
		}
		if at == len(order) || order[at] != x {
			order = slices.Insert(order, at, x)
		}
	}
	return order
}

// levelsOf is the model's Levels.
func levelsOf(l []api.Span) []int {
	order := gone(l)
	level := make([]int, len(order))
	for i, x := range order {
		for again := true; again; {
			again = false
			for j := range i {
				if level[j] == level[i] && meet(order[j], x) {
					again = true
				}
			}
			if again {
				level[i]++
			}
		}
	}
	all := make([]int, len(l))
	for i, x := range l {
		all[i] = level[slices.Index(order, x)]
	}
	return all
}

// depthOf is the model's Depth: how many unlike numbers there are.
func depthOf(l []api.Span) int {
	known := map[int]int{}
	for _, n := range levelsOf(l) {
		known[n]++
	}
	return len(known)
}

// findOf is the model's Find. From the list's end on, so that an earlier place writes over a later one.
func findOf(l []api.Span, port uint16) []int {
	found := make([]int, depthOf(l))
	for i := range found {
		found[i] = -1
	}
	levels := levelsOf(l)
	for i := len(l) - 1; i >= 0; i-- {
		if l[i].Lo <= port && port <= l[i].Hi {
			found[levels[i]] = i
		}
	}
	return found
}

// spanLists are lists of spans that may be: some by hand, many that are drawn with few ports, so that they meet.
func spanLists() [][]api.Span {
	lists := [][]api.Span{
		nil, {}, {s(0, 0)}, {s(0, lastPort)}, {s(lastPort, lastPort)}, {s(0, lastPort), s(0, lastPort)},
		{s(0, 9), s(5, 6), s(20, 30), s(5, 6), s(25, 40)}, {s(3, 5), s(0, 3), s(0, 9), s(4, 4)},
		{s(0, 32767), s(32768, lastPort), s(32767, 32768)}, {s(lastPort-1, lastPort), s(lastPort, lastPort), s(0, 1), s(0, 0), s(0, lastPort)},
	}
	draw := drawer(5)
	for i := range 600 {
		ports := []int{3, 6, 12, 40, lastPort + 1}[i%5]
		l := make([]api.Span, draw(25))
		for j := range l {
			a, b := draw(ports), draw(ports)
			if i%3 == 0 {
				a, b = lastPort-a, lastPort-b
			}
			l[j] = s(uint16(min(a, b)), uint16(max(a, b)))
		}
		lists = append(lists, l)
	}
	return lists
}

// portsOf are the ports at which one of a list begins or ends, those beside them, and the least and the greatest.
func portsOf(l []api.Span) []uint16 {
	ports := []uint16{0, lastPort}
	for _, x := range l {
		ports = append(ports, x.Lo, x.Hi, x.Lo-1, x.Hi+1)
	}
	slices.Sort(ports)
	return slices.Compact(ports)
}

func sameLevels(t *testing.T, l []api.Span, want []int, depth int) {
	t.Helper()
	if got, err := nest.Levels(l); !slices.Equal(got, want) || err != api.OK {
		t.Errorf("Levels(%v) = %v, %d, wanted %v", l, got, err, want)
	}
	if got, err := nest.Depth(l); got != depth || err != api.OK {
		t.Errorf("Depth(%v) = %d, %d, wanted %d", l, got, err, depth)
	}
}

func sameFind(t *testing.T, l []api.Span, port uint16, want ...int) {
	t.Helper()
	if got, err := nest.Find(l, port); !slices.Equal(got, want) || err != api.OK {
		t.Errorf("Find(%v, %d) = %v, %d, wanted %v", l, port, got, err, want)
	}
}

// P14.1

func TestLevelsByHand(t *testing.T) {
	for _, c := range []struct {
		name  string
		l     []api.Span
		want  []int
		depth int
	}{
		{"none", nil, nil, 0},
		{"none, but a list", []api.Span{}, nil, 0},
		{"one", []api.Span{s(7, 9)}, []int{0}, 1},
		{"one port", []api.Span{s(0, 0)}, []int{0}, 1},
		{"all ports", []api.Span{s(0, lastPort)}, []int{0}, 1},
		{"alike", []api.Span{s(7, 9), s(7, 9), s(7, 9)}, []int{0, 0, 0}, 1},
		{"alike, on a higher level", []api.Span{s(8, 8), s(7, 9), s(8, 8)}, []int{1, 0, 1}, 2},
		{"the same Lo, the lesser Hi first", []api.Span{s(4, 5), s(4, 6), s(4, 7)}, []int{2, 1, 0}, 3},
		{"the same Lo, the greater Hi first", []api.Span{s(4, 7), s(4, 6), s(4, 5)}, []int{0, 1, 2}, 3},
		{"the same Hi", []api.Span{s(6, 9), s(5, 9), s(4, 9)}, []int{2, 1, 0}, 3},
		{"beside one another", []api.Span{s(0, 4), s(5, 9), s(10, 10)}, []int{0, 0, 0}, 1},
		{"beside one another, from the end on", []api.Span{s(10, 10), s(5, 9), s(0, 4)}, []int{0, 0, 0}, 1},
		{"one port in common", []api.Span{s(0, 5), s(5, 9)}, []int{0, 1}, 2},
		{"apart", []api.Span{s(30, 40), s(0, 5), s(10, 20)}, []int{0, 0, 0}, 1},
		{"within one another", []api.Span{s(3, 4), s(0, 9), s(2, 7), s(1, 8)}, []int{3, 0, 2, 1}, 4},
		{"a chain", []api.Span{s(0, 10), s(5, 15), s(10, 20), s(16, 30)}, []int{0, 1, 2, 0}, 3},
		{"a chain that comes back", []api.Span{s(0, 10), s(5, 15), s(11, 20), s(16, 30), s(21, 21)}, []int{0, 1, 0, 1, 0}, 2},
		{"a gap on a lower level", []api.Span{s(0, 3), s(1, 99), s(5, 6), s(7, 7), s(7, 50), s(8, 9)}, []int{0, 1, 0, 2, 0, 2}, 3},
		{"a level within, that ends first", []api.Span{s(0, 99), s(1, 80), s(2, 10), s(11, 12), s(81, 90), s(82, 82)}, []int{0, 1, 2, 2, 1, 2}, 3},
		{"at both ends", []api.Span{s(lastPort, lastPort), s(0, lastPort), s(0, 0), s(0, lastPort-1)}, []int{1, 0, 2, 1}, 3},
		{"by the halves of all ports", []api.Span{s(0, 32767), s(32768, lastPort), s(0, lastPort)}, []int{1, 1, 0}, 2},
	} {
		t.Run(c.name, func(t *testing.T) { sameLevels(t, c.l, c.want, c.depth) })
	}
}

func TestLevels(t *testing.T) {
	deep := 0
	for _, l := range spanLists() {
		sameLevels(t, l, levelsOf(l), depthOf(l))
		deep = max(deep, depthOf(l))
	}
	if deep < 12 {
		t.Errorf("only %d levels", deep)
	}
}

// A span's level is its own, wherever it stands in the list, and however often.
func TestLevelsInAnyOrder(t *testing.T) {
	draw := drawer(7)
	for _, l := range spanLists() {
		want := levelsOf(l)
		for range 4 {
			mixed, levels := slices.Clone(l), slices.Clone(want)
			for i := range mixed {
				j := i + draw(len(mixed)-i)
				mixed[i], mixed[j] = mixed[j], mixed[i]
				levels[i], levels[j] = levels[j], levels[i]
			}
			sameLevels(t, mixed, levels, depthOf(l))
		}
		sameLevels(t, append(slices.Clone(l), l...), append(slices.Clone(want), want...), depthOf(l))
	}
}

// With so many spans, each one held against each other would take too long.
func TestLevelsOfMany(t *testing.T) {
	const half = 32768
	var within, beside []api.Span
	var inner, outer []int
	for i := range half {
		within = append(within, s(uint16(half-1-i), uint16(half+i)))
		inner, outer = append(inner, half-1-i), append(outer, 0)
		beside = append(beside, s(uint16(2*i), uint16(2*i+1)))
	}
	for _, c := range []struct {
		name  string
		l     []api.Span
		want  []int
		depth int
	}{
		{"within", within, inner, half}, {"beside", beside, outer, 1},
	} {
		if got, err := nest.Levels(c.l); !slices.Equal(got, c.want) || err != api.OK {
			t.Errorf("Levels of many spans %s one another: %d", c.name, err)
		}
		if got, err := nest.Depth(c.l); got != c.depth || err != api.OK {
			t.Errorf("Depth of many spans %s one another: %d, %d", c.name, got, err)
		}
	}
	found, err := nest.Find(within, half)
	if len(found) != half || err != api.OK {
		t.Fatalf("Find of many: %d levels, %d", len(found), err)
	}
	for level, place := range found {
		if place != half-1-level {
			t.Fatalf("Find of many: %d on the level %d", place, level)
		}
	}
}

// wrongSpans have the low end above the high one.
var wrongSpans = []api.Span{s(1, 0), s(2, 1), s(lastPort, 0), s(lastPort, lastPort-1), s(256, 255)}

func TestWrongSpans(t *testing.T) {
	good := []api.Span{s(0, lastPort), s(3, 5), s(3, 5), s(1, 2)}
	for _, wrong := range wrongSpans {
		lists := [][]api.Span{{wrong}, {wrong, wrong}}
		for i := range len(good) + 1 {
			lists = append(lists, slices.Insert(slices.Clone(good), i, wrong))
		}
		for _, l := range lists {
			if got, err := nest.Levels(l); len(got) != 0 || err != api.ErrSpanEnds {
				t.Errorf("Levels(%v) = %v, %d", l, got, err)
			}
			if got, err := nest.Depth(l); got != 0 || err != api.ErrSpanEnds {
				t.Errorf("Depth(%v) = %d, %d", l, got, err)
			}
			for _, port := range []uint16{0, 1, 2, 4, lastPort} {
				if got, err := nest.Find(l, port); len(got) != 0 || err != api.ErrSpanEnds {
					t.Errorf("Find(%v, %d) = %v, %d", l, port, got, err)
				}
			}
		}
	}
}

// P14.2

func TestFindByHand(t *testing.T) {
	for _, port := range []uint16{0, 1, lastPort} {
		sameFind(t, nil, port)
		sameFind(t, []api.Span{}, port)
	}
	alike := []api.Span{s(8, 8), s(7, 9), s(8, 8), s(7, 9)}
	sameFind(t, alike, 6, -1, -1)
	sameFind(t, alike, 7, 1, -1)
	sameFind(t, alike, 8, 1, 0)
	sameFind(t, alike, 9, 1, -1)
	sameFind(t, alike, 10, -1, -1)
	beside := []api.Span{s(5, 9), s(0, 4), s(0, 4)}
	sameFind(t, beside, 4, 1)
	sameFind(t, beside, 5, 0)
	sameFind(t, beside, 10, -1)
	ends := []api.Span{s(lastPort, lastPort), s(0, 0), s(0, lastPort), s(0, lastPort), s(lastPort, lastPort), s(0, 0)}
	sameFind(t, ends, 0, 2, 1)
	sameFind(t, ends, 1, 2, -1)
	sameFind(t, ends, lastPort-1, 2, -1)
	sameFind(t, ends, lastPort, 2, 0)
	// A level below may hold nothing of a port that one above holds.
	above := []api.Span{s(0, 5), s(3, 9), s(4, 7)}
	sameFind(t, above, 6, -1, 1, 2)
	sameFind(t, above, 8, -1, 1, -1)
	sameFind(t, above, 5, 0, 1, 2)
}

func TestFind(t *testing.T) {
	for _, l := range spanLists() {
		for _, port := range portsOf(l) {
			sameFind(t, l, port, findOf(l, port)...)
		}
	}
}

// The rules' models.

// base is a rule that may be, of all headers.
func base(id int) api.Rule {
	return api.Rule{Id: id, Sport: s(0, lastPort), Dport: s(0, lastPort), Action: api.Permit}
}

// pair is a rule that may be, with these prefixes.
func pair(id int, src, dst api.Prefix) api.Rule {
	r := base(id)
	r.Src, r.Dst = src, dst
	return r
}

// ported is a rule that may be, with these ports.
func ported(id int, sport, dport api.Span) api.Rule {
	r := base(id)
	r.Sport, r.Dport = sport, dport
	return r
}

// begins says by division whether an address is in a prefix that may be.
func begins(p api.Prefix, addr uint32) bool {
	n := uint64(1) << (32 - p.Len)
	return uint64(p.Addr)/n == uint64(addr)/n
}

// holds says of two prefixes that may be whether b lies within a.
func holds(a, b api.Prefix) bool { return a.Len <= b.Len && begins(a, b.Addr) }

// pruneOf is the model's Prune: of each pair of prefixes that counts the rules are told one by one, under the pair and the rule.
func pruneOf(l []api.Rule) int {
	type entry struct {
		src, dst api.Prefix
		id       int
	}
	entries := map[entry]int{}
	for _, a := range l {
		for _, b := range l {
			for _, c := range l {
				if holds(b.Src, a.Src) && holds(c.Src, a.Src) && holds(c.Dst, b.Dst) {
					entries[entry{a.Src, b.Dst, c.Id}]++
				}
			}
		}
	}
	return len(entries)
}

// gridOf is the model's Grid, likewise.
func gridOf(l []api.Rule) int {
	type entry struct {
		src api.Prefix
		id  int
	}
	entries := map[entry]int{}
	for _, a := range l {
		for _, b := range l {
			if holds(b.Src, a.Src) {
				entries[entry{a.Src, b.Id}]++
			}
		}
	}
	return len(entries)
}

// stemsOf goes up from the low end: each time by the greatest power of two that divides the port and goes no further than the end.
func stemsOf(x api.Span) int {
	n := 0
	for from, end := int(x.Lo), int(x.Hi)+1; from < end; n++ {
		wide := 1
		for from%(2*wide) == 0 && from+2*wide <= end {
			wide *= 2
		}
		from += wide
	}
	return n
}

// tupleOf is the model's Tuple.
func tupleOf(l []api.Rule) int {
	n := 0
	for _, r := range l {
		n += stemsOf(r.Sport) * stemsOf(r.Dport)
	}
	return n
}

// sizes are the three calls, each with its model.
var sizes = []struct {
	name  string
	size  func([]api.Rule) (int, api.Errno)
	model func([]api.Rule) int
}{
	{"Prune", nest.Prune, pruneOf}, {"Grid", nest.Grid, gridOf}, {"Tuple", nest.Tuple, tupleOf},
}

// size is what a call answers of a list that may be.
func size(t *testing.T, name string, call func([]api.Rule) (int, api.Errno), l []api.Rule) int {
	t.Helper()
	n, err := call(l)
	if err != api.OK {
		t.Fatalf("%s(%v): %d", name, l, err)
	}
	return n
}

func sameSizes(t *testing.T, l []api.Rule, prune, grid, tuple int) {
	t.Helper()
	for i, want := range []int{prune, grid, tuple} {
		if got, err := sizes[i].size(l); got != want || err != api.OK {
			t.Errorf("%s(%v) = %d, %d, wanted %d", sizes[i].name, l, got, err, want)
		}
	}
}

// drawPrefix draws among few addresses, so that prefixes are alike and lie within one another.
func drawPrefix(draw func(int) int) api.Prefix {
	n := []int{0, 1, 2, 3, 8, 16, 31, 32}[draw(8)]
	addr := []uint32{0, 1 << 31, 3 << 30, 0x0a000000, 0x0a010000, 0x0a010001, math.MaxUint32}[draw(7)]
	return pre(uint32(uint64(addr)>>(32-n)<<(32-n)), n)
}

func drawSpan(draw func(int) int) api.Span {
	ends := []int{0, 1, 6, 7, 80, 1023, 1024, 32768, lastPort - 1, lastPort}
	a, b := ends[draw(len(ends))], ends[draw(len(ends))]
	return s(uint16(min(a, b)), uint16(max(a, b)))
}

// drawRules draws n rules that may be, no two with one Id.
func drawRules(draw func(int) int, n int) []api.Rule {
	l := make([]api.Rule, n)
	for i := range l {
		care := uint8(draw(256))
		l[i] = api.Rule{
			Id: 1 + 15000*i + draw(15000), Src: drawPrefix(draw), Dst: drawPrefix(draw), Sport: drawSpan(draw), Dport: drawSpan(draw),
			Proto: api.Mask{Value: uint8(draw(256)) & care, Care: care}, Action: api.Action(1 + draw(4)),
		}
	}
	return l
}

// ruleLists are lists of rules that may be: of each length some, and the longest.
func ruleLists() [][]api.Rule {
	lists := [][]api.Rule{nil, {}, {base(1)}, {base(api.MaxId), base(1)}}
	draw := drawer(3)
	for n := range 24 {
		for range 6 {
			lists = append(lists, drawRules(draw, n))
		}
	}
	return append(lists, drawRules(draw, 63), drawRules(draw, 64), drawRules(draw, 64))
}

// fault is a rule that may not be, and why.
type fault struct {
	rule api.Rule
	err  api.Errno
}

// faults are rules with this Id that may not be for each of their fields.
func faults(id int) []fault {
	change := func(err api.Errno, write func(*api.Rule)) fault {
		r := base(id)
		write(&r)
		return fault{r, err}
	}
	return []fault{
		change(api.ErrRuleId, func(r *api.Rule) { r.Id = 0 }),
		change(api.ErrRuleId, func(r *api.Rule) { r.Id = -7 }),
		change(api.ErrRuleId, func(r *api.Rule) { r.Id = api.MaxId + 1 }),
		change(api.ErrRuleId, func(r *api.Rule) { *r = api.Rule{} }),
		change(api.ErrPrefixLen, func(r *api.Rule) { r.Src.Len = 33 }),
		change(api.ErrPrefixLen, func(r *api.Rule) { r.Src.Len = math.MinInt }),
		change(api.ErrPrefixLen, func(r *api.Rule) { r.Dst.Len = -1 }),
		change(api.ErrPrefixLen, func(r *api.Rule) { r.Dst.Len = math.MaxInt }),
		change(api.ErrPrefixBits, func(r *api.Rule) { r.Src = pre(1, 31) }),
		change(api.ErrPrefixBits, func(r *api.Rule) { r.Dst = pre(1<<31, 0) }),
		change(api.ErrSpanEnds, func(r *api.Rule) { r.Sport = s(2, 1) }),
		change(api.ErrSpanEnds, func(r *api.Rule) { r.Dport = s(lastPort, 0) }),
		change(api.ErrMaskBits, func(r *api.Rule) { r.Proto = api.Mask{Value: 2, Care: 1} }),
		change(api.ErrRuleAction, func(r *api.Rule) { r.Action = 0 }),
		change(api.ErrRuleAction, func(r *api.Rule) { r.Action = 5 }),
	}
}

// headersOf are headers at the edges of a list's fields, and beside them; each third one is one that a rule of the list matches.
func headersOf(draw func(int) int, l []api.Rule, n int) []api.Header {
	addrs, ports := []uint32{0, math.MaxUint32}, []uint16{0, lastPort}
	for _, r := range l {
		addrs = append(addrs, r.Src.Addr, r.Dst.Addr, r.Src.Addr-1, r.Dst.Addr+1, r.Src.Addr|0x00ffffff)
		ports = append(ports, r.Sport.Lo, r.Sport.Hi, r.Dport.Lo, r.Dport.Hi+1)
	}
	list := make([]api.Header, n)
	for i := range list {
		list[i] = api.Header{
			Src: addrs[draw(len(addrs))], Dst: addrs[draw(len(addrs))],
			Sport: ports[draw(len(ports))], Dport: ports[draw(len(ports))], Proto: uint8(draw(256)),
		}
		if i%3 == 0 && len(l) > 0 {
			r := l[draw(len(l))]
			list[i] = api.Header{Src: r.Src.Addr, Dst: r.Dst.Addr, Sport: r.Sport.Hi, Dport: r.Dport.Lo, Proto: r.Proto.Value}
		}
	}
	return list
}

// pairsOf is the model's Pairs, of rules that may be.
func pairsOf(l []api.Rule, h api.Header) int {
	n := 0
	for _, r := range l {
		if begins(r.Src, h.Src) && begins(r.Dst, h.Dst) {
			n++
		}
	}
	return n
}

// P14.3

func TestPairsByHand(t *testing.T) {
	ten, deep, one := pre(0x0a000000, 8), pre(0x0a010000, 16), pre(0x01000000, 8)
	l := []api.Rule{pair(1, ten, pre(0, 0)), pair(2, deep, one), pair(3, pre(0, 0), pre(0, 0)), pair(4, pre(0x0a010203, 32), pre(math.MaxUint32, 32))}
	for _, c := range []struct {
		src, dst uint32
		want     int
	}{
		{0x0a010203, 0x01010101, 3}, {0x0a010203, math.MaxUint32, 3}, {0x0a010203, 0x02010101, 2}, {0x0a010204, math.MaxUint32, 2},
		{0x0a020203, 0x01010101, 2}, {0x0affffff, 0, 2}, {0x0b000000, 0x01010101, 1}, {0x09ffffff, 0, 1}, {0, 0, 1}, {math.MaxUint32, math.MaxUint32, 1},
	} {
		h := api.Header{Src: c.src, Dst: c.dst}
		if got := nest.Pairs(l, h); got != c.want {
			t.Errorf("Pairs of %08x and %08x = %d, wanted %d", c.src, c.dst, got, c.want)
		}
		// Source and destination are not each other's.
		if got := nest.Pairs([]api.Rule{pair(1, pre(c.src, 32), pre(^c.src, 32))}, api.Header{Src: ^c.src, Dst: c.src}); got != 0 {
			t.Errorf("Pairs of exchanged addresses = %d", got)
		}
	}
	if got := nest.Pairs(nil, api.Header{}); got != 0 {
		t.Errorf("Pairs(nil) = %d", got)
	}
}

// Ports, protocols, Ids and actions are not asked for, beyond whether the rule may be.
func TestPairsAsksForAddressesAlone(t *testing.T) {
	r := pair(5, pre(0x0a000000, 8), pre(0x0b000000, 8))
	r.Sport, r.Dport, r.Proto, r.Action = s(5, 5), s(6, 6), api.Mask{Value: 6, Care: 255}, api.Queue
	h := api.Header{Src: 0x0a000001, Dst: 0x0b000001, Sport: 7, Dport: 8, Proto: 17}
	if got := nest.Pairs([]api.Rule{r}, h); got != 1 {
		t.Errorf("Pairs = %d", got)
	}
}

func TestPairs(t *testing.T) {
	draw := drawer(19)
	seen := 0
	for _, l := range ruleLists() {
		for _, h := range headersOf(draw, l, 40) {
			want := pairsOf(l, h)
			if got := nest.Pairs(l, h); got != want {
				t.Errorf("Pairs(%v, %v) = %d, wanted %d", l, h, got, want)
			}
			seen = max(seen, want)
		}
	}
	if seen < 8 {
		t.Errorf("only %d rules hold a header's addresses", seen)
	}
}

// Rules that may not be don't count, wherever they stand; all others do, also of one Id, also beyond 64.
func TestPairsOfAnyList(t *testing.T) {
	var l []api.Rule
	for i := range 100 {
		l = append(l, base(1+i%3))
		for _, f := range faults(1) {
			l = append(l, f.rule)
		}
	}
	if got := nest.Pairs(l, api.Header{}); got != 100 {
		t.Errorf("Pairs = %d, wanted 100", got)
	}
	for _, f := range faults(1) {
		if got := nest.Pairs([]api.Rule{f.rule}, api.Header{}); got != 0 {
			t.Errorf("Pairs of %v = %d", f.rule, got)
		}
	}
}

// P14.4

func TestSizesByHand(t *testing.T) {
	all, ten, deep, one := pre(0, 0), pre(0x0a000000, 8), pre(0x0a010000, 16), pre(0x01000000, 8)
	host, last := pre(0x0a010203, 32), pre(math.MaxUint32, 32)
	for _, c := range []struct {
		name               string
		l                  []api.Rule
		prune, grid, tuple int
	}{
		{"none", nil, 0, 0, 0},
		{"one", []api.Rule{base(1)}, 1, 1, 1},
		{"one of a single header", []api.Rule{pair(1, host, last)}, 1, 1, 1},
		{"alike", []api.Rule{pair(1, ten, one), pair(2, ten, one), pair(3, ten, one)}, 3, 3, 3},
		{"alike in Src", []api.Rule{pair(1, ten, one), pair(2, ten, ten)}, 2, 2, 2},
		{"alike in Src, within in Dst", []api.Rule{pair(1, ten, all), pair(2, ten, one)}, 3, 2, 2},
		{"alike in Dst", []api.Rule{pair(1, ten, one), pair(2, one, one)}, 2, 2, 2},
		{"alike in Dst, within in Src", []api.Rule{pair(1, ten, one), pair(2, deep, one)}, 3, 3, 2},
		{"apart", []api.Rule{pair(1, ten, ten), pair(2, one, one), pair(3, last, last)}, 3, 3, 3},
		{"within, Dst apart", []api.Rule{pair(1, ten, ten), pair(2, deep, one)}, 3, 3, 2},
		{"within, Dst within", []api.Rule{pair(1, ten, all), pair(2, deep, one)}, 4, 3, 2},
		{"within, Dst the other way round", []api.Rule{pair(1, ten, one), pair(2, deep, all)}, 4, 3, 2},
		{"a chain", []api.Rule{pair(1, all, all), pair(2, ten, ten), pair(3, deep, deep), pair(4, host, host)}, 1 + 3 + 6 + 10, 1 + 2 + 3 + 4, 4},
		{"one address, unlike lengths", []api.Rule{pair(1, pre(0, 0), one), pair(2, pre(0, 1), one), pair(3, pre(0, 32), one)}, 6, 6, 3},
		{"two addresses side by side", []api.Rule{pair(1, pre(0, 32), pre(0, 32)), pair(2, pre(1, 32), pre(1, 32)), pair(3, pre(0, 31), pre(0, 31))}, 3 + 3 + 1, 5, 3},
		{"ports of several stems", []api.Rule{ported(1, s(1, 6), s(0, lastPort))}, 1, 1, 4},
		{"ports of several stems, the other way round", []api.Rule{ported(1, s(0, lastPort), s(1, 6))}, 1, 1, 4},
		{"both ports of several stems", []api.Rule{ported(1, s(1, 6), s(1024, lastPort)), ported(2, s(80, 80), s(443, 443))}, 2, 2, 4*6 + 1},
		{"as many stems as can be", []api.Rule{ported(1, s(1, lastPort-1), s(1, lastPort-1))}, 1, 1, 900},
	} {
		t.Run(c.name, func(t *testing.T) { sameSizes(t, c.l, c.prune, c.grid, c.tuple) })
	}
}

func TestSizes(t *testing.T) {
	for _, l := range ruleLists() {
		sameSizes(t, l, pruneOf(l), gridOf(l), tupleOf(l))
		stems := 0
		for _, r := range l {
			from, _ := expand.Count(r.Sport)
			to, _ := expand.Count(r.Dport)
			stems += from * to
		}
		if n := size(t, "Tuple", nest.Tuple, l); n != stems {
			t.Errorf("Tuple(%v) = %d, of expand %d", l, n, stems)
		}
	}
}

// Large ones: 64 rules, each Src within the one ahead, with as many Dsts within one another as there can be.
func TestSizesOfTheLongest(t *testing.T) {
	var l []api.Rule
	prune, grid := 0, 0
	for i := range 64 {
		n := i / 2 // two Dsts a Src, the lengths from 0 to 31
		r := pair(i+1, pre(0, n), pre(0, i%33))
		r.Sport, r.Dport = s(1, lastPort-1), s(1, lastPort-1)
		l = append(l, r)
		prune, grid = pruneOf(l), gridOf(l)
		sameSizes(t, l, prune, grid, 900*(i+1))
	}
	if prune <= 15000 || grid != 2*32*33/2 {
		t.Errorf("the longest: %d, %d", prune, grid)
	}
}

// many are n rules that may be, the Ids from 1 on.
func many(n int) []api.Rule {
	l := make([]api.Rule, n)
	for i := range l {
		l[i] = pair(i+1, pre(uint32(i)<<24, 8), pre(0, 0))
	}
	return l
}

// put is a list with another rule at that place, instead of what stood there.
func put(l []api.Rule, place int, r api.Rule) []api.Rule {
	l = slices.Clone(l)
	l[place] = r
	return l
}

func sameError(t *testing.T, what string, l []api.Rule, want api.Errno) {
	t.Helper()
	for _, c := range sizes {
		got, err := c.size(l)
		if err != want {
			t.Errorf("%s of %s: %d, wanted %d", c.name, what, err, want)
		}
		if err != api.OK && got != 0 {
			t.Errorf("%s of %s: %d beside the error %d", c.name, what, got, err)
		}
	}
	// The chapter: it is table.Set's, with Max 64.
	x, err := table.New(api.Config{Max: api.MaxRules, Default: api.Deny, Binth: 1})
	if err != api.OK {
		t.Fatal(err)
	}
	if err := x.Set(l); err != want {
		t.Errorf("Set of %s: %d, wanted %d", what, err, want)
	}
}

func TestRuleThatMayNotBe(t *testing.T) {
	for _, f := range faults(1) {
		sameError(t, "a wrong rule alone", []api.Rule{f.rule}, f.err)
		for place := range 4 {
			sameError(t, "a wrong rule among others", slices.Insert(many(3), place, f.rule), f.err)
		}
		sameError(t, "a wrong rule as the 64th", put(many(64), 63, f.rule), f.err)
	}
}

func TestTwoOfOneId(t *testing.T) {
	sameError(t, "two rules that are alike", []api.Rule{base(1), base(1)}, api.ErrTableTwice)
	other := pair(1, pre(0x0a000000, 8), pre(0x0b000000, 8))
	other.Action = api.Queue
	sameError(t, "two rules that share the Id alone", []api.Rule{base(1), other}, api.ErrTableTwice)
	sameError(t, "the greatest Id twice", []api.Rule{base(api.MaxId), base(2), base(api.MaxId)}, api.ErrTableTwice)
	sameError(t, "the first and the 64th", put(many(64), 63, base(1)), api.ErrTableTwice)
	sameError(t, "the 63rd and the 64th", put(many(64), 63, base(63)), api.ErrTableTwice)
	sameError(t, "no two", many(64), api.OK)
	sameError(t, "the least and the greatest Id", []api.Rule{base(api.MaxId), base(1)}, api.OK)
}

func TestMoreThan64(t *testing.T) {
	sameError(t, "63", many(63), api.OK)
	sameError(t, "64", many(64), api.OK)
	sameError(t, "65", many(65), api.ErrTableFull)
	sameError(t, "66", many(66), api.ErrTableFull)
	sameError(t, "100000", many(100000), api.ErrTableFull)
}

func TestWhichErrorIsFirst(t *testing.T) {
	for _, f := range faults(1) {
		sameError(t, "a wrong rule with another's Id", []api.Rule{base(1), f.rule}, f.err)
		sameError(t, "a wrong rule ahead of two of one Id", []api.Rule{base(1), f.rule, base(1)}, f.err)
		sameError(t, "a wrong rule behind two of one Id", []api.Rule{base(2), base(2), f.rule}, api.ErrTableTwice)
		sameError(t, "a wrong rule as the 65th", put(many(65), 64, f.rule), f.err)
		sameError(t, "a wrong rule as the 66th", put(many(66), 65, f.rule), api.ErrTableFull)
		sameError(t, "a wrong rule ahead in a list that is too long", put(many(70), 0, f.rule), f.err)
		for _, g := range faults(2) {
			sameError(t, "two wrong rules", []api.Rule{base(1), f.rule, g.rule}, f.err)
		}
	}
	sameError(t, "an Id again as the 65th", put(many(65), 64, base(64)), api.ErrTableTwice)
	sameError(t, "an Id again as the 66th", put(many(66), 65, base(1)), api.ErrTableFull)
	sameError(t, "an Id again in a list that is too long", put(many(70), 1, base(1)), api.ErrTableTwice)
}

// P14.5

func TestSpansOfOneLevelAreApart(t *testing.T) {
	for _, l := range spanLists() {
		levels, err := nest.Levels(l)
		if err != api.OK || len(levels) != len(l) {
			t.Fatalf("Levels(%v) = %v, %d", l, levels, err)
		}
		for i, a := range l {
			for j, b := range l {
				if levels[i] == levels[j] && a != b && meet(a, b) {
					t.Errorf("%v: %v and %v are both of the level %d", l, a, b, levels[i])
				}
				if a == b && levels[i] != levels[j] {
					t.Errorf("%v: %v has the levels %d and %d", l, a, levels[i], levels[j])
				}
			}
		}
	}
}

func TestFindTellsAllThatHold(t *testing.T) {
	for _, l := range spanLists() {
		for _, port := range portsOf(l) {
			found, err := nest.Find(l, port)
			if err != api.OK {
				t.Fatalf("Find(%v, %d): %d", l, port, err)
			}
			told := map[api.Span]int{}
			for _, place := range found {
				if place >= 0 {
					told[l[place]]++
				}
			}
			for _, x := range l {
				want := 0
				if x.Lo <= port && port <= x.Hi {
					want = 1
				}
				if told[x] != want {
					t.Errorf("Find(%v, %d) = %v tells %v %d times", l, port, found, x, told[x])
				}
			}
		}
	}
}

func TestSpansAboveMeetEachLevelBelow(t *testing.T) {
	for _, l := range spanLists() {
		levels, err := nest.Levels(l)
		if err != api.OK || len(levels) != len(l) {
			t.Fatalf("Levels(%v) = %v, %d", l, levels, err)
		}
		for i, a := range l {
			for below := range levels[i] {
				if !slices.ContainsFunc(l, func(b api.Span) bool { return levels[slices.Index(l, b)] == below && meet(a, b) }) {
					t.Errorf("%v: %v of the level %d meets none of the level %d", l, a, levels[i], below)
				}
			}
		}
	}
}

func TestSizesHangOnFieldsAlone(t *testing.T) {
	draw := drawer(23)
	for _, l := range ruleLists() {
		mixed := slices.Clone(l)
		for i := range mixed {
			j := i + draw(len(mixed)-i)
			mixed[i], mixed[j] = mixed[j], mixed[i]
		}
		back, renamed := slices.Clone(l), slices.Clone(l)
		slices.Reverse(back)
		for i := range renamed {
			renamed[i].Id, renamed[i].Action = api.MaxId-i, api.Action(1+draw(4))
		}
		for _, c := range sizes {
			want := size(t, c.name, c.size, l)
			for _, other := range [][]api.Rule{mixed, back, renamed} {
				if got := size(t, c.name, c.size, other); got != want {
					t.Errorf("%s(%v) = %d, of %v %d", c.name, l, want, other, got)
				}
			}
		}
	}
}

func TestSizesOfFewerRules(t *testing.T) {
	for _, l := range ruleLists() {
		for _, c := range sizes {
			whole := size(t, c.name, c.size, l)
			for place := range l {
				if n := size(t, c.name, c.size, slices.Delete(slices.Clone(l), place, place+1)); n > whole {
					t.Errorf("%s(%v) = %d, without the place %d it is %d", c.name, l, whole, place, n)
				}
			}
		}
	}
}

func TestSizesAgainstEachOther(t *testing.T) {
	for _, l := range ruleLists() {
		prune, grid, tuple := size(t, "Prune", nest.Prune, l), size(t, "Grid", nest.Grid, l), size(t, "Tuple", nest.Tuple, l)
		if grid < len(l) || tuple < len(l) || prune < grid {
			t.Errorf("%v: Prune %d, Grid %d, Tuple %d", l, prune, grid, tuple)
		}
	}
}

func TestNoMoreMatchThanPairs(t *testing.T) {
	draw := drawer(29)
	hits := 0
	for _, l := range ruleLists() {
		for _, h := range headersOf(draw, l, 40) {
			n := 0
			for _, r := range l {
				if rule.Match(r, h) {
					n++
				}
			}
			if p := nest.Pairs(l, h); n > p {
				t.Errorf("%d rules of %v match %v, and Pairs tells %d", n, l, h, p)
			}
			hits += n
		}
	}
	if hits < 1500 {
		t.Errorf("only %d matches", hits)
	}
}

// R2

// Lists that are given stay as they were, their spare room too.
func TestListsStay(t *testing.T) {
	for _, l := range spanLists() {
		room := append(slices.Clone(l), s(9, 9), s(8, 8), s(0, lastPort))
		was := slices.Clone(room)
		given := room[:len(l)]
		nest.Levels(given)
		nest.Depth(given)
		nest.Find(given, 3)
		if !slices.Equal(room, was) {
			t.Errorf("%v became %v", was, room)
		}
	}
	for _, l := range ruleLists() {
		room := append(slices.Clone(l), base(7), base(8))
		was := slices.Clone(room)
		given := room[:len(l)]
		for _, c := range sizes {
			c.size(given)
		}
		nest.Pairs(given, api.Header{})
		if !slices.Equal(room, was) {
			t.Errorf("%v became %v", was, room)
		}
	}
}

// What comes out is new memory: what is written there is not seen the next time.
func TestAnswersAreNew(t *testing.T) {
	l := []api.Span{s(3, 5), s(0, 3), s(0, 9), s(4, 4)}
	levels, _ := nest.Levels(l)
	found, _ := nest.Find(l, 3)
	clear(levels)
	clear(found)
	sameLevels(t, l, []int{2, 1, 0, 1}, 3)
	sameFind(t, l, 3, 2, 1, 0)
}

// What was asked ahead changes nothing, errors neither.
func TestSameAgain(t *testing.T) {
	spans := []api.Span{s(3, 5), s(0, 3), s(0, 9), s(4, 4)}
	rules := drawRules(drawer(31), 20)
	want := [3]int{pruneOf(rules), gridOf(rules), tupleOf(rules)}
	for range 3 {
		nest.Levels(wrongSpans)
		nest.Find([]api.Span{s(0, lastPort)}, 3)
		nest.Prune(many(65))
		nest.Pairs(many(65), api.Header{})
		sameLevels(t, spans, []int{2, 1, 0, 1}, 3)
		sameFind(t, spans, 3, 2, 1, 0)
		sameSizes(t, rules, want[0], want[1], want[2])
	}
}

// The chapter's table.
func TestExamples(t *testing.T) {
	sameLevels(t, []api.Span{s(0, 9), s(5, 6), s(20, 30), s(5, 6), s(25, 40)}, []int{0, 1, 0, 1, 1}, 2)
	l := []api.Span{s(3, 5), s(0, 3), s(0, 9), s(4, 4)}
	sameLevels(t, l, []int{2, 1, 0, 1}, 3)
	sameLevels(t, nil, nil, 0)
	sameFind(t, l, 3, 2, 1, 0)
	sameFind(t, l, 4, 2, 3, 0)
	sameFind(t, l, 7, 2, -1, -1)
	if got, err := nest.Levels([]api.Span{s(2, 1)}); len(got) != 0 || err != api.ErrSpanEnds {
		t.Errorf("Levels of 2 to 1 = %v, %d", got, err)
	}
	rules := []api.Rule{pair(1, pre(0x0a000000, 8), pre(0, 0)), pair(2, pre(0x0a010000, 16), pre(0x01000000, 8)), pair(3, pre(0, 0), pre(0, 0))}
	sameSizes(t, rules, 8, 6, 3)
	if got, err := nest.Tuple([]api.Rule{ported(1, s(1, 6), s(0, lastPort))}); got != 4 || err != api.OK {
		t.Errorf("Tuple = %d, %d", got, err)
	}
	sameError(t, "65 rules", many(65), api.ErrTableFull)
	sameError(t, "two rules with one Id", []api.Rule{rules[0], rules[1], rules[0]}, api.ErrTableTwice)
}
