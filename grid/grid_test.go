package grid_test

import (
	"math"
	"reflect"
	"slices"
	"strconv"
	"testing"

	"quintet/api"
	"quintet/grid"
	"quintet/nest"
	"quintet/table"
)

const lastPort = math.MaxUint16

// every is the rule of all headers, written out.
func every(id int, a api.Action) api.Rule {
	return api.Rule{
		Id: id, Src: api.Prefix{Addr: 0, Len: 0}, Dst: api.Prefix{Addr: 0, Len: 0},
		Sport: api.Span{Lo: 0, Hi: lastPort}, Dport: api.Span{Lo: 0, Hi: lastPort},
		Proto: api.Mask{Value: 0, Care: 0}, Action: a,
	}
}

// pair is a rule with these prefixes; its action follows from its Id.
func pair(id int, src, dst api.Prefix) api.Rule {
	r := every(id, api.Action(1+id%4))
	r.Src, r.Dst = src, dst
	return r
}

// pre is the prefix of so many bits of an address.
func pre(addr uint32, n int) api.Prefix {
	return api.Prefix{Addr: uint32(uint64(addr) >> (32 - n) << (32 - n)), Len: n}
}

func addr(a, b, c, d uint32) uint32 { return a<<24 | b<<16 | c<<8 | d }

// config is the one of the chapter's examples.
func config() api.Config {
	return api.Config{Max: 10, Default: api.Deny, Prune: 100, Grid: 100, Tuple: 100, Binth: 4, Depth: 8}
}

// sized is a configuration with this Max and this budget. No other budget is asked for by this engine, so the others are 0.
func sized(most, budget int) api.Config {
	return api.Config{Max: most, Default: api.Queue, Grid: budget, Binth: 1}
}

// roomy is a configuration that has room for all lists that may be.
func roomy() api.Config { return sized(api.MaxRules, api.MaxBudget) }

func sameErr(t *testing.T, what string, got, want api.Errno) {
	t.Helper()
	if got != want {
		t.Errorf("%s: %d, wanted %d", what, got, want)
	}
}

// made is an engine with these rules, put behind one another by Insert.
func made(t *testing.T, c api.Config, l ...api.Rule) *grid.Engine {
	t.Helper()
	e, err := grid.New(c)
	if err != api.OK || e == nil {
		t.Fatalf("New(%+v): %v, %d", c, e, err)
	}
	for i, r := range l {
		if err := e.Insert(i, r); err != api.OK {
			t.Fatalf("Insert(%d, %+v): %d", i, r, err)
		}
	}
	return e
}

// The models.

// begins says by division whether an address is in a prefix that may be.
func begins(p api.Prefix, addr uint32) bool {
	n := uint64(1) << (32 - p.Len)
	return uint64(p.Addr)/n == uint64(addr)/n
}

// matches is DOC.md's word, of a rule that may be.
func matches(r api.Rule, h api.Header) bool {
	return begins(r.Src, h.Src) && begins(r.Dst, h.Dst) &&
		r.Sport.Lo <= h.Sport && h.Sport <= r.Sport.Hi && r.Dport.Lo <= h.Dport && h.Dport <= r.Dport.Hi &&
		(h.Proto^r.Proto.Value)&r.Proto.Care == 0
}

// decides is the model's Ask: the last rule is asked first, so that an earlier one writes over it.
func decides(l []api.Rule, other api.Action, h api.Header) api.Verdict {
	v := api.Verdict{Action: other}
	for i := len(l) - 1; i >= 0; i-- {
		if matches(l[i], h) {
			v = api.Verdict{Hit: true, Id: l[i].Id, Action: l[i].Action}
		}
	}
	return v
}

// less is the model's Delete: a new list without the rule of that place.
func less(l []api.Rule, place int) []api.Rule {
	return slices.Delete(slices.Clone(l), place, place+1)
}

// more is the model's Insert: a new list with the rule at that place.
func more(l []api.Rule, place int, r api.Rule) []api.Rule {
	return slices.Insert(slices.Clone(l), place, r)
}

func placeOf(l []api.Rule, id int) int {
	return slices.IndexFunc(l, func(r api.Rule) bool { return r.Id == id })
}

// sizeOf is nest.Grid of a list that may be.
func sizeOf(t *testing.T, l []api.Rule) int {
	t.Helper()
	size, err := nest.Grid(l)
	if err != api.OK {
		t.Fatalf("nest.Grid(%v): %d", l, err)
	}
	return size
}

// Rules and headers that are drawn.

// drawer gives numbers by a rule that goes all about, the same each time.
func drawer(state uint64) func(n int) int {
	return func(n int) int {
		state = state*6364136223846793005 + 1442695040888963407
		return int(state >> 33 % uint64(n))
	}
}

// drawPrefix cuts one of few addresses, so that many of the prefixes lie within one another; /0 and /32 are frequent.
func drawPrefix(draw func(int) int) api.Prefix {
	at := []uint32{addr(10, 1, 2, 3), addr(10, 1, 2, 2), addr(10, 200, 0, 1), 0, math.MaxUint32, 1 << 31}[draw(6)]
	return pre(at, []int{0, 32, 8, 31, draw(33), draw(33)}[draw(6)])
}

func drawRule(draw func(int) int, id int) api.Rule {
	spans := []api.Span{{Hi: lastPort}, {Hi: lastPort}, {Hi: lastPort}, {Lo: 80, Hi: 80}, {Lo: 1, Hi: 1023}, {}, {Lo: 443, Hi: lastPort}}
	masks := []api.Mask{{}, {}, {}, {Value: 6, Care: 255}, {Value: 1, Care: 1}, {Care: 0x80}}
	return api.Rule{
		Id: id, Action: api.Action(1 + draw(4)), Src: drawPrefix(draw), Dst: drawPrefix(draw),
		Sport: spans[draw(len(spans))], Dport: spans[draw(len(spans))], Proto: masks[draw(len(masks))],
	}
}

// drawRules are n rules that may be, the Ids from 1 on, in any order.
func drawRules(draw func(int) int, n int) []api.Rule {
	l := make([]api.Rule, n)
	for i := range l {
		l[i] = drawRule(draw, i+1)
		other := draw(i + 1)
		l[i].Id, l[other].Id = l[other].Id, l[i].Id
	}
	return l
}

// ends are the addresses at which a prefix begins and ends, and those beside them.
func ends(p api.Prefix) []uint32 {
	last := p.Addr + uint32(uint64(1)<<(32-p.Len)-1)
	return []uint32{p.Addr, last, p.Addr - 1, last + 1}
}

// near are n headers, drawn from where the rules' fields begin and end, and from beside that; the addresses mostly of two rules.
func near(draw func(int) int, l []api.Rule, n int) []api.Header {
	l = append([]api.Rule{every(1, api.Deny)}, l...)
	heads := make([]api.Header, n)
	for i := range heads {
		a, b := l[draw(len(l))], l[draw(len(l))]
		if draw(3) == 0 {
			b = a
		}
		heads[i] = api.Header{
			Src: ends(a.Src)[draw(10)%4], Dst: ends(b.Dst)[draw(10)%4],
			Sport: []uint16{a.Sport.Lo, a.Sport.Hi, a.Sport.Lo - 1, a.Sport.Hi + 1}[draw(10)%4],
			Dport: []uint16{b.Dport.Lo, b.Dport.Hi, b.Dport.Lo - 1, b.Dport.Hi + 1}[draw(10)%4],
			Proto: []uint8{a.Proto.Value, b.Proto.Value, ^a.Proto.Value}[draw(3)],
		}
	}
	return heads
}

// crossed are headers with each of the addresses at which a rule's prefixes begin and end; a long list has many.
func crossed(l []api.Rule) []api.Header {
	from, to := []uint32{0, math.MaxUint32}, []uint32{0, math.MaxUint32}
	for _, r := range l {
		from, to = append(from, ends(r.Src)...), append(to, ends(r.Dst)...)
	}
	slices.Sort(from)
	slices.Sort(to)
	var heads []api.Header
	for _, src := range slices.Compact(from) {
		for _, dst := range slices.Compact(slices.Clone(to)) {
			heads = append(heads, api.Header{Src: src, Dst: dst, Sport: 80, Dport: 443, Proto: 6})
		}
	}
	return heads
}

// fewHeaders have an edge, or a number amid them, in each field.
func fewHeaders() []api.Header {
	var list []api.Header
	for _, src := range []uint32{0, addr(10, 1, 2, 3), addr(11, 0, 0, 0), math.MaxUint32} {
		for _, dst := range []uint32{0, addr(10, 1, 2, 3), 1 << 31, math.MaxUint32} {
			for _, sport := range []uint16{0, 80, lastPort} {
				for _, dport := range []uint16{0, 80, lastPort} {
					for _, proto := range []uint8{0, 6, 255} {
						list = append(list, api.Header{Src: src, Dst: dst, Sport: sport, Dport: dport, Proto: proto})
					}
				}
			}
		}
	}
	return list
}

// some are n rules that may be, no two alike: the Ids from 1 on. Each takes one entry.
func some(n int) []api.Rule {
	l := make([]api.Rule, n)
	for i := range l {
		l[i] = pair(i+1, pre(uint32(i)<<24, 8), pre(0, 0))
	}
	return l
}

// deep are rules whose sources and destinations lie within one another: of the lengths that differ by these steps.
func deep(from, to uint32, step int) []api.Rule {
	var l []api.Rule
	for n := 0; n <= 32; n += step {
		l = append(l, pair(len(l)+1, pre(from, 32-n), pre(to, n)))
	}
	return l
}

// What is held against what.

// answers holds what an engine says of headers, and what it counts, against the rules that it is to have (P17.3).
func answers(t *testing.T, what string, e *grid.Engine, l []api.Rule, other api.Action, heads []api.Header) {
	t.Helper()
	for _, h := range heads {
		v, s := e.Ask(h)
		if want := decides(l, other, h); v != want {
			t.Fatalf("%s: Ask(%+v) = %+v, wanted %+v of %v", what, h, v, want, l)
		}
		least, most := 0, nest.Pairs(l, h)
		if v.Hit {
			least = 1
		}
		if s.Nodes < least || s.Nodes > 68 || s.Rules < least || s.Rules > most || s.Depth != 0 || s.Tables != 0 || s.Probes != 0 {
			t.Fatalf("%s: Ask(%+v) counts %+v; %d to %d rules, of %v", what, h, s, least, most, l)
		}
		if v2, s2 := e.Ask(h); v2 != v || s2 != s {
			t.Fatalf("%s: Ask(%+v) = %+v, %+v, then %+v, %+v", what, h, v, s, v2, s2)
		}
	}
}

// bounded holds what an engine says of its size against the rules that it is to have (P17.4).
func bounded(t *testing.T, what string, e *grid.Engine, l []api.Rule) {
	t.Helper()
	size := sizeOf(t, l)
	s := e.Stats()
	if s.Nodes < 0 || s.Nodes > 66*len(l)+1 || s.Entries < len(l) || s.Entries > size || s.Tables != 0 || s.Slots != 0 {
		t.Fatalf("%s: Stats() = %+v; Grid %d, %d rules: %v", what, s, size, len(l), l)
	}
}

// has holds both against them.
func has(t *testing.T, what string, e *grid.Engine, l []api.Rule, other api.Action, heads []api.Header) {
	t.Helper()
	answers(t, what, e, l, other, heads)
	bounded(t, what, e, l)
}

// told is all that an engine tells: of each header the verdict and what is counted, and its size.
type told struct {
	verdicts []api.Verdict
	steps    []api.Steps
	stats    api.Stats
}

func tell(e *grid.Engine, heads []api.Header) told {
	var all told
	for _, h := range heads {
		v, s := e.Ask(h)
		all.verdicts, all.steps = append(all.verdicts, v), append(all.steps, s)
	}
	all.stats = e.Stats()
	return all
}

func (a told) equal(b told) bool {
	return slices.Equal(a.verdicts, b.verdicts) && slices.Equal(a.steps, b.steps) && a.stats == b.stats
}

// refusal is a call that is to be refused, and by which number.
type refusal struct {
	what string
	call func(e *grid.Engine) api.Errno
	want api.Errno
}

// refused makes the calls one behind the other; behind each of them the engine tells what it told ahead of it.
func refused(t *testing.T, e *grid.Engine, l []api.Rule, calls []refusal) {
	t.Helper()
	heads := append(fewHeaders()[:40:40], near(drawer(3), l, 40)...)
	before := tell(e, heads)
	for _, c := range calls {
		sameErr(t, c.what, c.call(e), c.want)
		if !tell(e, heads).equal(before) {
			t.Errorf("%s: refused, and changed", c.what)
		}
	}
}

func inserting(what string, place int, r api.Rule, want api.Errno) refusal {
	return refusal{"Insert, " + what, func(e *grid.Engine) api.Errno { return e.Insert(place, r) }, want}
}

func deleting(id int, want api.Errno) refusal {
	return refusal{"Delete of " + strconv.Itoa(id), func(e *grid.Engine) api.Errno { return e.Delete(id) }, want}
}

func setting(what string, want api.Errno, l ...api.Rule) refusal {
	return refusal{"Set, " + what, func(e *grid.Engine) api.Errno { return e.Set(l) }, want}
}

// wrongRule is a rule that may not be, and why.
type wrongRule struct {
	rule api.Rule
	err  api.Errno
}

// wrongRules are rules with this Id that may not be for each of their other fields, and some for the Id.
func wrongRules(id int) []wrongRule {
	change := func(err api.Errno, write func(*api.Rule)) wrongRule {
		r := every(id, api.Permit)
		write(&r)
		return wrongRule{r, err}
	}
	return []wrongRule{
		change(api.ErrRuleId, func(r *api.Rule) { r.Id = 0 }),
		change(api.ErrRuleId, func(r *api.Rule) { r.Id = -1 }),
		change(api.ErrRuleId, func(r *api.Rule) { r.Id = 1000000 }),
		change(api.ErrRuleId, func(r *api.Rule) { *r = api.Rule{} }),
		change(api.ErrPrefixLen, func(r *api.Rule) { r.Src.Len = 33 }),
		change(api.ErrPrefixLen, func(r *api.Rule) { r.Dst.Len = -1 }),
		change(api.ErrPrefixBits, func(r *api.Rule) { r.Src.Addr = 1 << 31 }),
		change(api.ErrPrefixBits, func(r *api.Rule) { r.Dst.Addr = 1 }),
		change(api.ErrSpanEnds, func(r *api.Rule) { r.Sport = api.Span{Lo: 2, Hi: 1} }),
		change(api.ErrSpanEnds, func(r *api.Rule) { r.Dport = api.Span{Lo: lastPort, Hi: 0} }),
		change(api.ErrMaskBits, func(r *api.Rule) { r.Proto = api.Mask{Value: 2, Care: 1} }),
		change(api.ErrRuleAction, func(r *api.Rule) { r.Action = 0 }),
		change(api.ErrRuleAction, func(r *api.Rule) { r.Action = 5 }),
	}
}

// farPlaces are numbers that are no place of any engine.
var farPlaces = []int{-1, -2, 65, 1000000, math.MinInt, math.MinInt32, math.MaxInt32, math.MaxInt}

// P17.1

// configs are configurations with one field at or beyond an edge each.
func configs() []api.Config {
	fields := []struct {
		write   func(c *api.Config, n int)
		numbers []int
	}{
		{func(c *api.Config, n int) { c.Max = n }, []int{0, 1, 2, 64, 65}},
		{func(c *api.Config, n int) { c.Default = api.Action(n) }, []int{0, 1, 2, 3, 4, 5}},
		{func(c *api.Config, n int) { c.Prune = n }, []int{0, 1, 1048576, 1048577}},
		{func(c *api.Config, n int) { c.Grid = n }, []int{0, 1, 1048576, 1048577}},
		{func(c *api.Config, n int) { c.Tuple = n }, []int{0, 1, 1048576, 1048577}},
		{func(c *api.Config, n int) { c.Binth = n }, []int{0, 1, 16, 17}},
		{func(c *api.Config, n int) { c.Depth = n }, []int{0, 1, 10, 11}},
	}
	list := []api.Config{{}, config(), roomy()}
	for _, f := range fields {
		for _, n := range append(f.numbers, -1, math.MinInt, math.MaxInt) {
			c := config()
			f.write(&c, n)
			list = append(list, c)
		}
	}
	return list
}

func TestNew(t *testing.T) {
	good, wrong := 0, 0
	for _, c := range configs() {
		e, err := grid.New(c)
		want := table.Check(c)
		if err != want || (e == nil) != (want != api.OK) {
			t.Errorf("New(%+v) = %v, %d, wanted %d", c, e, err, want)
			continue
		}
		if want != api.OK {
			wrong++
			continue
		}
		good++
		has(t, "a new engine", e, nil, c.Default, fewHeaders())
		sameErr(t, "Delete", e.Delete(1), api.ErrTableNone)
	}
	if good < 20 || wrong < 20 {
		t.Errorf("%d configurations that may be, %d that may not", good, wrong)
	}
}

func TestNewSaysWhatMayNotBe(t *testing.T) {
	for _, write := range []func(*api.Config){
		func(c *api.Config) { c.Max = 0 }, func(c *api.Config) { c.Max = 65 },
		func(c *api.Config) { c.Default = 0 }, func(c *api.Config) { c.Default = 5 },
		func(c *api.Config) { c.Grid = -1 }, func(c *api.Config) { c.Grid = 1048577 },
		func(c *api.Config) { c.Prune = -1 }, func(c *api.Config) { c.Tuple = 1048577 },
		func(c *api.Config) { c.Binth = 0 }, func(c *api.Config) { c.Depth = 11 },
		func(c *api.Config) { *c = api.Config{} },
	} {
		c := config()
		write(&c)
		if e, err := grid.New(c); e != nil || err != api.ErrTableConfig {
			t.Errorf("New(%+v) = %v, %d", c, e, err)
		}
	}
}

// P17.2

func TestInsertAtEveryPlace(t *testing.T) {
	for _, n := range []int{0, 1, 2, 3, 7} {
		base := some(n)
		for i := range base {
			base[i].Src = pre(0, i) // all of them have 0.0.0.0, so that the place decides
		}
		for place := range n + 1 {
			e := made(t, sized(n+1, api.MaxBudget), base...)
			r := every(500, api.Queue)
			sameErr(t, "Insert", e.Insert(place, r), api.OK)
			l := more(base, place, r)
			has(t, "behind Insert at "+strconv.Itoa(place), e, l, api.Queue, crossed(l))
		}
	}
}

func TestInsertThatIsRefused(t *testing.T) {
	const n = 3
	for _, most := range []int{n, n + 1} { // full, and with room
		e := made(t, sized(most, api.MaxBudget), some(n)...)
		var calls []refusal
		for id := 1; id <= n+1; id++ { // three that are there, and one more
			for _, place := range []int{-1, 0, n, n + 1} {
				for _, w := range wrongRules(id) {
					calls = append(calls, inserting("a rule that may not be", place, w.rule, w.err))
				}
				if id <= n {
					calls = append(calls, inserting("an Id that is there", place, every(id, api.Log), api.ErrTableTwice))
				}
			}
		}
		for _, place := range append([]int{n + 1, n + 2}, farPlaces...) {
			calls = append(calls, inserting("no place", place, every(500, api.Log), api.ErrTablePlace))
		}
		if most == n {
			for place := range n + 1 {
				calls = append(calls, inserting("full", place, every(500, api.Log), api.ErrTableFull))
			}
		}
		refused(t, e, some(n), calls)
		has(t, "behind what was refused", e, some(n), api.Queue, fewHeaders())
	}
}

func TestMax(t *testing.T) {
	for _, most := range []int{1, 2, 5, 63, 64} {
		l := some(most)
		e := made(t, sized(most, api.MaxBudget), l...)
		refused(t, e, l, []refusal{
			inserting("full", 0, every(500, api.Log), api.ErrTableFull),
			inserting("full", most, every(500, api.Log), api.ErrTableFull),
			setting("too many", api.ErrTableFull, some(most+1)...),
		})
		has(t, "a full engine", e, l, api.Queue, near(drawer(5), l, 300))
		sameErr(t, "Set of the most", e.Set(l), api.OK)
		sameErr(t, "Delete", e.Delete(1), api.OK)
		sameErr(t, "Insert where one is gone", e.Insert(0, every(500, api.Log)), api.OK)
		sameErr(t, "Insert into a full engine", e.Insert(0, every(501, api.Log)), api.ErrTableFull)
	}
}

func TestDeleteOfEachRule(t *testing.T) {
	draw := drawer(21)
	for _, n := range []int{1, 2, 3, 9, 20} {
		l := drawRules(draw, n)
		heads := near(draw, l, 200)
		for place, r := range l {
			e := made(t, roomy(), l...)
			sameErr(t, "Delete", e.Delete(r.Id), api.OK)
			has(t, "behind Delete", e, less(l, place), api.Queue, heads)
			sameErr(t, "Delete once more", e.Delete(r.Id), api.ErrTableNone)
			sameErr(t, "Insert once more", e.Insert(place, r), api.OK)
			has(t, "behind both", e, l, api.Queue, heads)
		}
	}
}

func TestDeleteOfNone(t *testing.T) {
	for _, n := range []int{0, 1, 5} {
		e := made(t, roomy(), some(n)...)
		var calls []refusal
		for _, id := range []int{n + 1, 0, -1, 999999, 1000000, math.MinInt, math.MaxInt} {
			calls = append(calls, deleting(id, api.ErrTableNone))
		}
		refused(t, e, some(n), calls)
	}
}

func TestSet(t *testing.T) {
	draw := drawer(22)
	e := made(t, roomy())
	for _, n := range []int{5, 0, 64, 1, 0, 20, 64, 3} {
		l := drawRules(draw, n)
		sameErr(t, "Set", e.Set(l), api.OK)
		has(t, "behind Set of "+strconv.Itoa(n), e, l, api.Queue, near(draw, l, 300))
	}
	for _, none := range [][]api.Rule{nil, {}} {
		sameErr(t, "Set", e.Set(drawRules(draw, 7)), api.OK)
		sameErr(t, "Set of none", e.Set(none), api.OK)
		has(t, "behind Set of none", e, nil, api.Queue, fewHeaders())
	}
}

func TestSetThatIsRefused(t *testing.T) {
	const most = 4
	l := some(most)
	var calls []refusal
	for place := range l {
		for _, w := range wrongRules(100) {
			wrong := slices.Clone(l)
			wrong[place] = w.rule
			calls = append(calls, setting("a rule that may not be", w.err, wrong...))
			calls = append(calls, setting("a rule that may not be, then two of one Id", w.err, append(wrong, l...)...))
			calls = append(calls, setting("a rule that may not be, behind two of one Id", api.ErrTableTwice, append([]api.Rule{every(7, api.Log), every(7, api.Log)}, wrong...)...))
		}
		for other := range place {
			twice := slices.Clone(l)
			twice[place].Id = l[other].Id
			calls = append(calls, setting("two of one Id", api.ErrTableTwice, twice...))
		}
	}
	calls = append(calls,
		setting("one too many", api.ErrTableFull, some(most+1)...),
		setting("many too many", api.ErrTableFull, some(200)...),
		setting("too many, and then one that may not be", api.ErrTableFull, append(some(most+1), api.Rule{})...),
		setting("too many, which may not be", api.ErrRuleId, append(some(most), api.Rule{})...),
		setting("too many, whose Id is there", api.ErrTableTwice, append(some(most), l[0])...),
	)
	refused(t, made(t, sized(most, api.MaxBudget), l...), l, calls)
	refused(t, made(t, sized(most, api.MaxBudget)), nil, calls)
}

// The room: by hand.
func TestRoomByHand(t *testing.T) {
	ten, all := pre(addr(10, 0, 0, 0), 8), pre(0, 0)
	for _, c := range []struct {
		name string
		size int
		l    []api.Rule
	}{
		{"one rule", 1, []api.Rule{every(1, api.Log)}},
		{"two alike", 2, []api.Rule{every(1, api.Log), every(2, api.Deny)}},
		{"apart", 2, []api.Rule{pair(1, ten, all), pair(2, pre(addr(11, 0, 0, 0), 8), all)}},
		{"a source within", 3, []api.Rule{pair(1, ten, all), every(2, api.Log)}},
		{"a target within", 2, []api.Rule{pair(1, all, ten), every(2, api.Log)}},
		{"crosswise", 3, []api.Rule{pair(1, ten, all), pair(2, all, ten)}},
		{"both within", 3, []api.Rule{pair(1, ten, ten), every(2, api.Log)}},
		{"three within one another", 6, []api.Rule{pair(1, pre(ten.Addr, 32), all), pair(2, ten, all), every(3, api.Log)}},
		{"chapter 14's", 6, []api.Rule{pair(1, ten, all), pair(2, pre(addr(10, 1, 0, 0), 16), pre(addr(1, 0, 0, 0), 8)), every(3, api.Log)}},
	} {
		last := len(c.l) - 1
		x := made(t, sized(64, c.size), c.l...)
		has(t, c.name, x, c.l, api.Queue, crossed(c.l))
		sameErr(t, c.name+": Set at the budget", x.Set(c.l), api.OK)
		y := made(t, sized(64, c.size-1), c.l[:last]...)
		refused(t, y, c.l[:last], []refusal{
			inserting(c.name+": one below", 0, c.l[last], api.ErrGridRoom),
			inserting(c.name+": one below", last, c.l[last], api.ErrGridRoom),
			setting(c.name+": one below", api.ErrGridRoom, c.l...),
		})
		has(t, c.name+": refused", y, c.l[:last], api.Queue, crossed(c.l))
	}
}

// The room: at the size itself, and one below, of Insert at any place and of Set.
func TestRoomExactly(t *testing.T) {
	draw := drawer(23)
	for range 150 {
		l := drawRules(draw, 1+draw(12))
		heads := near(draw, l, 60)
		place := draw(len(l))
		rest := less(l, place)
		size, fewer := sizeOf(t, l), sizeOf(t, rest)
		for _, budget := range []int{fewer, size - 1, size, size + 1} {
			want, now := api.OK, l
			if size > budget {
				want, now = api.ErrGridRoom, rest
			}
			e := made(t, sized(64, budget))
			sameErr(t, "Set of fewer", e.Set(rest), api.OK)
			sameErr(t, "Insert", e.Insert(place, l[place]), want)
			has(t, "behind Insert", e, now, api.Queue, heads)
			sameErr(t, "Set of fewer", e.Set(rest), api.OK)
			sameErr(t, "Set", e.Set(l), want)
			has(t, "behind Set", e, now, api.Queue, heads)
		}
	}
}

// With a budget of 0 there may be no rule, with the greatest one there may be any.
func TestRoomAtItsEdges(t *testing.T) {
	e := made(t, sized(64, 0))
	refused(t, e, nil, []refusal{
		inserting("no budget", 0, every(1, api.Log), api.ErrGridRoom),
		setting("no budget", api.ErrGridRoom, every(1, api.Log)),
		setting("no budget, many", api.ErrGridRoom, some(64)...),
	})
	sameErr(t, "Set of none", e.Set(nil), api.OK)
	has(t, "no budget", e, nil, api.Queue, fewHeaders())
	l := largest()
	size := sizeOf(t, l)
	x := made(t, sized(64, size), l...)
	has(t, "the largest", x, l, api.Queue, near(drawer(2), l, 2000))
	y := made(t, sized(64, size-1), l[:63]...)
	refused(t, y, l[:63], []refusal{inserting("the largest", 63, l[63], api.ErrGridRoom), setting("the largest", api.ErrGridRoom, l...)})
}

// largest are 64 rules with all lengths of prefixes, within one another as deep as may be.
func largest() []api.Rule {
	var l []api.Rule
	for n := range 64 {
		l = append(l, pair(n+1, pre(addr(10, 1, 2, 3), n*32/63), pre(math.MaxUint32, 32-n*32/63)))
	}
	return l
}

// No other budget is asked for.
func TestRoomIsThatOfGridAlone(t *testing.T) {
	c := config()
	c.Prune, c.Tuple, c.Binth, c.Depth = 0, 0, 1, 0
	l := deep(math.MaxUint32, 0, 8)
	l[0].Dport = api.Span{Lo: 1, Hi: 65534}
	has(t, "no room elsewhere", made(t, c, l...), l, api.Deny, crossed(l))
}

// Table's errors come ahead of the room's.
func TestRoomComesLast(t *testing.T) {
	l := some(3)
	for _, most := range []int{3, 64} {
		e := made(t, sized(most, 3), l...)
		var calls []refusal
		for _, w := range wrongRules(9) {
			calls = append(calls, inserting("a rule that may not be", 0, w.rule, w.err))
			calls = append(calls, setting("a rule that may not be", w.err, append(slices.Clone(l[:2]), w.rule)...))
			calls = append(calls, setting("a rule that may not be, behind too large ones", w.err, pair(1, pre(0, 8), pre(0, 0)), every(2, api.Log), w.rule))
		}
		calls = append(calls,
			inserting("an Id that is there", 0, every(1, api.Log), api.ErrTableTwice),
			inserting("no place", -1, every(9, api.Log), api.ErrTablePlace),
			inserting("no place", 4, every(9, api.Log), api.ErrTablePlace),
			setting("two of one Id", api.ErrTableTwice, pair(1, pre(0, 8), pre(0, 0)), every(2, api.Log), every(1, api.Log)),
		)
		last := api.ErrGridRoom
		if most == 3 {
			last = api.ErrTableFull
		}
		calls = append(calls,
			inserting("full, or no room", 0, every(9, api.Log), last),
			inserting("full, or no room", 3, every(9, api.Log), last),
			setting("full, or no room", last, append(slices.Clone(l), every(9, api.Log))...),
			setting("no room", api.ErrGridRoom, pair(1, pre(0, 8), pre(0, 0)), every(2, api.Log), pair(3, pre(0, 9), pre(0, 9))),
			setting("of 65, no room", api.ErrTableFull, some(65)...),
			deleting(9, api.ErrTableNone),
		)
		refused(t, e, l, calls)
	}
}

func TestDeleteMakesRoom(t *testing.T) {
	ten, all := pre(addr(10, 0, 0, 0), 8), pre(0, 0)
	a, b, c := pair(1, ten, all), pair(2, all, ten), pair(3, ten, ten)
	e := made(t, sized(64, 3), a, b) // their size is 3: both count below the one source, b alone below the other
	refused(t, e, []api.Rule{a, b}, []refusal{inserting("no room", 0, c, api.ErrGridRoom)})
	sameErr(t, "Delete", e.Delete(1), api.OK)
	sameErr(t, "Insert", e.Insert(0, c), api.OK) // 3 again
	has(t, "behind both", e, []api.Rule{c, b}, api.Queue, crossed([]api.Rule{a, b, c}))
	refused(t, e, []api.Rule{c, b}, []refusal{inserting("no room", 2, a, api.ErrGridRoom)})
	sameErr(t, "Delete", e.Delete(2), api.OK)
	sameErr(t, "Insert", e.Insert(1, a), api.OK)
	has(t, "behind all", e, []api.Rule{c, a}, api.Queue, crossed([]api.Rule{a, b, c}))
	sameErr(t, "Delete", e.Delete(3), api.OK)
	sameErr(t, "Delete", e.Delete(1), api.OK)
	sameErr(t, "Set", e.Set([]api.Rule{b, a}), api.OK)
}

// P17.3

func TestAskByHand(t *testing.T) {
	hosts := pre(addr(10, 1, 2, 3), 32)
	web := every(4, api.Log)
	web.Dport, web.Proto = api.Span{Lo: 80, Hi: 80}, api.Mask{Value: 6, Care: 255}
	l := []api.Rule{pair(5, hosts, hosts), web, pair(6, pre(hosts.Addr, 8), pre(0, 0)), pair(7, pre(0, 0), pre(hosts.Addr, 31)), pair(8, hosts, pre(1<<31, 1))}
	e := made(t, config(), l...)
	for _, c := range []struct {
		name string
		h    api.Header
		id   int
	}{
		{"the first of several", api.Header{Src: hosts.Addr, Dst: hosts.Addr, Dport: 80, Proto: 6}, 5},
		{"the second one", api.Header{Src: hosts.Addr, Dst: hosts.Addr + 1, Dport: 80, Proto: 6}, 4},
		{"another port", api.Header{Src: hosts.Addr, Dst: hosts.Addr + 1, Dport: 81, Proto: 6}, 6},
		{"another protocol", api.Header{Src: hosts.Addr, Dst: hosts.Addr - 1, Dport: 80, Proto: 7}, 6},
		{"a shorter source", api.Header{Src: hosts.Addr + 1, Dst: hosts.Addr, Dport: 80, Proto: 7}, 6},
		{"no source but all", api.Header{Src: 1, Dst: hosts.Addr - 1, Dport: 1, Proto: 6}, 7},
		{"no target but all", api.Header{Src: 1, Dst: math.MaxUint32, Dport: 80, Proto: 6}, 4},
		{"none", api.Header{Src: 1, Dst: math.MaxUint32, Dport: 81, Proto: 6}, 0},
		{"none, one beside", api.Header{Src: addr(11, 0, 0, 0), Dst: hosts.Addr + 1, Dport: 81, Proto: 6}, 0},
	} {
		want := api.Verdict{Action: api.Deny}
		if at := placeOf(l, c.id); at >= 0 {
			want = api.Verdict{Hit: true, Id: c.id, Action: l[at].Action}
		}
		if v, _ := e.Ask(c.h); v != want {
			t.Errorf("%s: Ask(%+v) = %+v, wanted %+v", c.name, c.h, v, want)
		}
	}
	has(t, "by hand", e, l, api.Deny, append(crossed(l), fewHeaders()...))
}

func TestAskWithNoRuleOfTheSourceOrTheTarget(t *testing.T) {
	ten := pre(addr(10, 0, 0, 0), 8)
	for _, l := range [][]api.Rule{
		{pair(1, ten, ten)},
		{pair(1, ten, pre(0, 0)), pair(2, pre(ten.Addr, 16), ten)},
		{pair(1, pre(math.MaxUint32, 32), pre(0, 32)), pair(2, pre(0, 32), pre(math.MaxUint32, 32))},
	} {
		for a := api.Deny; a <= api.Queue; a++ {
			c := config()
			c.Default = a
			has(t, "few rules", made(t, c, l...), l, a, append(crossed(l), fewHeaders()...))
		}
	}
}

func TestAskWithoutRules(t *testing.T) {
	for a := api.Deny; a <= api.Queue; a++ {
		c := config()
		c.Default = a
		e := made(t, c)
		for _, h := range fewHeaders() {
			if v, s := e.Ask(h); v != (api.Verdict{Action: a}) || s.Rules != 0 {
				t.Fatalf("Ask(%+v) = %+v, %+v", h, v, s)
			}
		}
		sameErr(t, "Insert", e.Insert(0, every(1, api.Log)), api.OK)
		sameErr(t, "Delete", e.Delete(1), api.OK)
		has(t, "no rule any more", e, nil, a, fewHeaders())
	}
}

// All lengths of prefixes, /0 and /32 among them, within one another; the rules in both orders.
func TestAskWithinOneAnother(t *testing.T) {
	for _, step := range []int{1, 2, 8, 16, 32} {
		for _, from := range []uint32{0, addr(10, 1, 2, 3), math.MaxUint32} {
			for _, to := range []uint32{0, math.MaxUint32} {
				l := deep(from, to, step)
				heads := near(drawer(4), l, 150)
				for range 2 {
					has(t, "deep", made(t, roomy(), l...), l, api.Queue, heads)
					slices.Reverse(l)
				}
			}
		}
	}
}

// A rule with shorter prefixes decides beside one with the longest ones.
func TestAskWhereAShorterRuleDecides(t *testing.T) {
	host := pre(addr(10, 1, 2, 3), 32)
	for from := range 33 {
		for to := range 33 {
			short, long := pair(1, pre(host.Addr, from), pre(host.Addr, to)), pair(2, host, host)
			h := api.Header{Src: host.Addr, Dst: host.Addr}
			l := []api.Rule{short, long}
			answers(t, "the shorter one ahead", made(t, roomy(), l...), l, api.Queue, []api.Header{h})
			long.Sport = api.Span{Lo: 1, Hi: 1}
			l = []api.Rule{long, short}
			answers(t, "the longer one has another port", made(t, roomy(), l...), l, api.Queue, []api.Header{h})
		}
	}
}

// A way that the longest source's destinations don't have goes on in those of a shorter one: from each length on, to each longer one.
func TestAskWhereAShorterSourceAloneHasTheTarget(t *testing.T) {
	from, to := addr(10, 1, 2, 3), addr(172, 16, 5, 9)
	for parts := range 32 {
		other := to ^ 1<<(31-parts) // alike up to there
		for n := parts + 1; n <= 32; n++ {
			for _, first := range []int{0, 8, 31} {
				l := []api.Rule{pair(1, pre(from, 32), pre(other, 32)), pair(2, pre(from, first), pre(to, n))}
				e := made(t, sized(64, 3), l...)
				answers(t, "a target of a shorter source", e, l, api.Queue, []api.Header{
					{Src: from, Dst: to}, {Src: from, Dst: other}, {Src: from, Dst: other ^ 1}, {Src: from ^ 1, Dst: to}, {Src: from ^ 1, Dst: other},
				})
				if v, _ := e.Ask(api.Header{Src: from, Dst: to}); v.Id != 2 {
					t.Errorf("/%d to /%d, which parts at %d: %+v", first, n, parts, v)
				}
			}
		}
	}
}

// Of the shorter sources the nearest one that has the target is not always the nearest one; and from it the way may go on to a further one.
func TestAskFromSourceToSource(t *testing.T) {
	from, to := addr(10, 1, 2, 3), addr(172, 16, 5, 9)
	ports := func(r api.Rule, lo, hi uint16) api.Rule {
		r.Sport = api.Span{Lo: lo, Hi: hi}
		return r
	}
	l := []api.Rule{
		ports(pair(1, pre(from, 32), pre(to^1<<31, 9)), 0, 5),
		ports(pair(2, pre(from, 24), pre(to^1<<30, 20)), 0, 5),
		ports(pair(3, pre(from, 16), pre(to, 4)), 3, 5),
		ports(pair(4, pre(from, 12), pre(to^1<<20, 30)), 4, 5),
		ports(pair(5, pre(from, 8), pre(to, 16)), 2, 5),
		ports(pair(6, pre(from, 4), pre(to^1<<29, 31)), 0, 5),
		ports(pair(7, pre(0, 0), pre(to, 32)), 1, 5),
	}
	e := made(t, roomy(), l...)
	for port, id := range []int{0, 7, 5, 3, 3, 3} {
		if v, s := e.Ask(api.Header{Src: from, Dst: to, Sport: uint16(port)}); v.Id != id || s.Rules > 3 {
			t.Errorf("the port %d: %+v, %+v", port, v, s)
		}
	}
	for _, order := range [][]int{{0, 1, 2, 3, 4, 5, 6}, {6, 5, 4, 3, 2, 1, 0}, {3, 6, 0, 5, 1, 4, 2}} {
		var turned []api.Rule
		for _, i := range order {
			turned = append(turned, l[i])
		}
		heads := crossed(turned)
		for i := range heads {
			heads[i].Sport = uint16(i % 6)
		}
		has(t, "from source to source", made(t, roomy(), turned...), turned, api.Queue, heads)
	}
}

// A node on the way to a longer destination has the rules of shorter sources, too.
func TestAskOfShorterSourcesOnTheWay(t *testing.T) {
	from, to := addr(10, 1, 2, 3), addr(172, 16, 5, 9)
	for n := range 32 {
		for first := range 32 {
			l := []api.Rule{pair(1, pre(from, 32), pre(to, 32)), pair(2, pre(from, first), pre(to, n))}
			e := made(t, roomy(), l...)
			answers(t, "on the way", e, l, api.Queue, []api.Header{
				{Src: from, Dst: to}, {Src: from, Dst: to ^ 1}, {Src: from ^ 1, Dst: to}, {Src: from, Dst: to ^ 1<<(32-n-1)},
			})
			if v, _ := e.Ask(api.Header{Src: from, Dst: to ^ 1}); v.Id != 2 {
				t.Errorf("/%d to /%d: %+v", first, n, v)
			}
		}
	}
}

// All headers of a small world: prefixes of at most three bits, and each of the eight times eight parts that they make.
func TestAskOfASmallWorld(t *testing.T) {
	draw := drawer(34)
	part := func() api.Prefix { return pre(uint32(draw(8))<<29, draw(4)) }
	var heads []api.Header
	for src := range uint32(8) {
		for dst := range uint32(8) {
			heads = append(heads, api.Header{Src: src<<29 + 7, Dst: dst<<29 + 7, Sport: uint16((src + dst) % 2)})
		}
	}
	for range 1500 {
		l := make([]api.Rule, 1+draw(10))
		for i := range l {
			l[i] = pair(i+1, part(), part())
			l[i].Sport.Lo = uint16(draw(2))
		}
		e := made(t, roomy())
		sameErr(t, "Set", e.Set(l), api.OK)
		has(t, "a small world", e, l, api.Queue, heads)
	}
}

func TestAskCountsAtMost68Nodes(t *testing.T) {
	for _, a := range []uint32{0, addr(10, 1, 2, 3), math.MaxUint32} {
		l := []api.Rule{pair(1, pre(a, 32), pre(^a, 32)), pair(2, pre(a, 31), pre(^a, 30)), every(3, api.Log)}
		has(t, "whole addresses", made(t, roomy(), l...), l, api.Queue, crossed(l))
	}
}

// None but the rules whose prefixes have a header are held against it.
func TestAskHoldsNoOtherRules(t *testing.T) {
	var l []api.Rule
	for i := range 16 {
		l = append(l, pair(i+1, pre(uint32(i)<<28, 4), pre(uint32(i/4)<<30, 2)))
	}
	e := made(t, roomy(), l...)
	for i := range uint32(16) {
		for j := range uint32(16) {
			v, s := e.Ask(api.Header{Src: i<<28 + 5, Dst: j<<28 + 5})
			if hit := i/4 == j/4; v.Hit != hit || s.Rules > 1 || hit != (s.Rules == 1) {
				t.Errorf("Ask from %d to %d: %+v, %+v", i, j, v, s)
			}
		}
	}
}

// None behind the first match is held against a header.
func TestAskHoldsRulesTillOneMatches(t *testing.T) {
	l := alike(64)
	for i := range l {
		l[i].Sport = api.Span{Lo: uint16(i), Hi: lastPort}
	}
	slices.Reverse(l)
	e := made(t, roomy(), l...)
	for port := range 64 {
		if v, s := e.Ask(api.Header{Sport: uint16(port)}); v.Id != port+1 || s.Rules != 64-port {
			t.Errorf("Ask of the port %d: %+v, %+v", port, v, s)
		}
	}
}

func TestAskOfManyLists(t *testing.T) {
	draw := drawer(24)
	hits, several := 0, 0
	for range 120 {
		l := drawRules(draw, draw(65))
		heads := near(draw, l, 150)
		has(t, "drawn", made(t, roomy(), l...), l, api.Queue, heads)
		for _, h := range heads {
			n := 0
			for _, r := range l {
				if matches(r, h) {
					n++
				}
			}
			hits += min(n, 1)
			several += min(n/2, 1)
		}
	}
	if hits < 5000 || several < 3000 {
		t.Errorf("%d headers with a match, %d with several", hits, several)
	}
}

func TestAskAsTheTableDoes(t *testing.T) {
	draw := drawer(25)
	for range 40 {
		l := drawRules(draw, draw(30))
		c := config()
		c.Max, c.Grid = 64, api.MaxBudget
		x, err := table.New(c)
		sameErr(t, "table.New", err, api.OK)
		sameErr(t, "table.Set", x.Set(l), api.OK)
		e := made(t, c)
		sameErr(t, "Set", e.Set(l), api.OK)
		for _, h := range near(draw, l, 100) {
			want, _ := x.Match(h)
			if v, _ := e.Ask(h); v != want {
				t.Fatalf("Ask(%+v) = %+v, wanted %+v", h, v, want)
			}
		}
	}
}

// P17.4

func TestStatsByHand(t *testing.T) {
	if s := made(t, roomy()).Stats(); s.Nodes > 1 || s.Entries != 0 || s.Tables != 0 || s.Slots != 0 {
		t.Errorf("Stats() = %+v without rules", s)
	}
	host := pre(math.MaxUint32, 32)
	for _, c := range []struct {
		name                  string
		l                     []api.Rule
		least, entries, nodes int
	}{
		{"one rule of all", []api.Rule{every(1, api.Log)}, 1, 1, 67},
		{"one rule of whole addresses", []api.Rule{pair(1, host, host)}, 1, 1, 67},
		{"64 alike", alike(64), 64, 64, 66*64 + 1},
		{"64 apart", some(64), 64, 64, 66*64 + 1},
		{"64 apart, of whole addresses", hosts(), 64, 64, 66*64 + 1},
		{"crosswise", []api.Rule{pair(1, host, pre(0, 0)), pair(2, pre(0, 0), host)}, 2, 3, 66*2 + 1},
		{"three within one another", []api.Rule{pair(1, host, host), pair(2, pre(host.Addr, 8), host), pair(3, pre(0, 0), host)}, 3, 6, 66*3 + 1},
	} {
		e := made(t, roomy(), c.l...)
		if s := e.Stats(); s.Entries < c.least || s.Entries > c.entries || s.Nodes > c.nodes || s.Nodes < 1 || s.Tables != 0 || s.Slots != 0 {
			t.Errorf("%s: Stats() = %+v", c.name, s)
		}
		bounded(t, c.name, e, c.l)
	}
}

// hosts are 64 rules with whole addresses that part early, so that nearly no two nodes are one.
func hosts() []api.Rule {
	l := make([]api.Rule, 64)
	for i := range l {
		part := uint32(i)<<26 + 1<<25
		l[i] = pair(i+1, pre(part+1, 32), pre(^part, 32))
	}
	return l
}

// alike are n rules of all headers.
func alike(n int) []api.Rule {
	l := make([]api.Rule, n)
	for i := range l {
		l[i] = every(i+1, api.Permit)
	}
	return l
}

func TestStatsOfTheLargest(t *testing.T) {
	l := largest()
	e := made(t, roomy(), l...)
	bounded(t, "the largest", e, l)
	for len(l) > 0 {
		sameErr(t, "Delete", e.Delete(l[0].Id), api.OK)
		l = l[1:]
		bounded(t, "fewer", e, l)
	}
}

// Whatever came and went, nothing of it is left.
func TestStatsBehindManyCalls(t *testing.T) {
	draw := drawer(26)
	e := made(t, sized(12, api.MaxBudget))
	var l []api.Rule
	for step := range 3000 {
		if id := 1 + draw(20); placeOf(l, id) >= 0 {
			sameErr(t, "Delete", e.Delete(id), api.OK)
			l = less(l, placeOf(l, id))
		} else if len(l) < 12 {
			r, place := drawRule(draw, id), draw(len(l)+1)
			sameErr(t, "Insert", e.Insert(place, r), api.OK)
			l = more(l, place, r)
		}
		bounded(t, "step "+strconv.Itoa(step), e, l)
	}
	for _, r := range l {
		sameErr(t, "Delete", e.Delete(r.Id), api.OK)
	}
	bounded(t, "behind all", e, nil)
}

func TestStatsDoNotHangOnWhatIsAsked(t *testing.T) {
	l := deep(addr(10, 1, 2, 3), 0, 4)
	e := made(t, roomy(), l...)
	before := e.Stats()
	for _, h := range crossed(l) {
		e.Ask(h)
	}
	if s := e.Stats(); s != before {
		t.Errorf("Stats() = %+v, then %+v", before, s)
	}
}

// P17.5

// way is one in which an engine comes to have the rules of a list. What it calls is handed to done, which asks for OK.
type way struct {
	name string
	come func(e *grid.Engine, l []api.Rule, done func(api.Errno))
}

// ways are several of these.
func ways(draw func(int) int) []way {
	return []way{
		{"by Set", func(e *grid.Engine, l []api.Rule, done func(api.Errno)) {
			done(e.Set(l))
		}},
		{"by Set, of others first", func(e *grid.Engine, l []api.Rule, done func(api.Errno)) {
			done(e.Set(alike(64)))
			done(e.Set(drawRules(draw, 30)))
			done(e.Set(l))
		}},
		{"by Insert, behind one another", func(e *grid.Engine, l []api.Rule, done func(api.Errno)) {
			for i, r := range l {
				done(e.Insert(i, r))
			}
		}},
		{"by Insert, ahead of one another", func(e *grid.Engine, l []api.Rule, done func(api.Errno)) {
			for _, r := range slices.Backward(l) {
				done(e.Insert(0, r))
			}
		}},
		{"by Insert, in any order", func(e *grid.Engine, l []api.Rule, done func(api.Errno)) {
			var there []int // rising
			for _, i := range shuffled(draw, len(l)) {
				place, _ := slices.BinarySearch(there, i)
				done(e.Insert(place, l[i]))
				there = slices.Insert(there, place, i)
			}
		}},
		{"with rules that came and went", func(e *grid.Engine, l []api.Rule, done func(api.Errno)) {
			for i, r := range l[:min(len(l), 63)] { // the last one of 64 has no room for another one
				done(e.Insert(draw(i+1), drawRule(draw, 900)))
				done(e.Delete(900))
				done(e.Insert(0, drawRule(draw, 901)))
				done(e.Insert(i+1, r))
				done(e.Delete(901))
			}
			for i := 63; i < len(l); i++ {
				done(e.Insert(i, l[i]))
			}
		}},
		{"each gone for a while", func(e *grid.Engine, l []api.Rule, done func(api.Errno)) {
			done(e.Set(l))
			for i, r := range l {
				done(e.Delete(r.Id))
				done(e.Insert(i, r))
			}
		}},
		{"the other way round first", func(e *grid.Engine, l []api.Rule, done func(api.Errno)) {
			for _, r := range l {
				done(e.Insert(0, r))
			}
			for i, r := range l {
				done(e.Delete(r.Id))
				done(e.Insert(i, r))
			}
		}},
	}
}

// shuffled are the numbers below n in any order.
func shuffled(draw func(int) int, n int) []int {
	order := make([]int, n)
	for i := range order {
		j := draw(i + 1)
		order[i] = order[j]
		order[j] = i
	}
	return order
}

func TestTheSameRulesAreAnsweredAlike(t *testing.T) {
	draw := drawer(27)
	for _, n := range []int{0, 1, 2, 5, 5, 12, 30, 64} {
		l := drawRules(draw, n)
		heads := append(near(draw, l, 300), fewHeaders()...)
		want := tell(made(t, roomy(), l...), heads)
		for _, w := range ways(draw) {
			e := made(t, roomy())
			w.come(e, l, func(err api.Errno) { sameErr(t, w.name, err, api.OK) })
			has(t, w.name, e, l, api.Queue, heads)
			if !slices.Equal(tell(e, heads).verdicts, want.verdicts) {
				t.Errorf("%s: other answers", w.name)
			}
		}
	}
}

// Budgets, and what else the configuration says, are not seen in what is answered.
func TestOtherBudgetsAnswerAlike(t *testing.T) {
	draw := drawer(28)
	l := drawRules(draw, 20)
	size := sizeOf(t, l)
	heads := near(draw, l, 500)
	x, y := made(t, sized(20, size), l...), made(t, roomy(), l...)
	if !slices.Equal(tell(x, heads).verdicts, tell(y, heads).verdicts) {
		t.Error("other answers")
	}
}

// T1, T2: an engine and the list that it is to have, modelled by lists that are made anew.

type walker struct {
	t            *testing.T
	e            *grid.Engine
	l            []api.Rule
	most, budget int
	rooms        int // how often there was no room
}

// done holds what a call answered against table's error of it; then against the size of the rules as they would be.
func (w *walker) done(what string, got, want api.Errno, next []api.Rule) {
	w.t.Helper()
	if want == api.OK {
		if sizeOf(w.t, next) > w.budget {
			want = api.ErrGridRoom
			w.rooms++
		}
	}
	sameErr(w.t, what, got, want)
	if want == api.OK {
		w.l = next
	}
}

func (w *walker) insert(place int, r api.Rule) {
	got := w.e.Insert(place, r)
	switch {
	case r.Action > api.Queue:
		w.done("Insert", got, api.ErrRuleAction, nil)
	case placeOf(w.l, r.Id) >= 0:
		w.done("Insert", got, api.ErrTableTwice, nil)
	case place < 0 || place > len(w.l):
		w.done("Insert", got, api.ErrTablePlace, nil)
	case len(w.l) == w.most:
		w.done("Insert", got, api.ErrTableFull, nil)
	default:
		w.done("Insert", got, api.OK, more(w.l, place, r))
	}
}

func (w *walker) delete(id int) {
	got := w.e.Delete(id)
	if place := placeOf(w.l, id); place >= 0 {
		w.done("Delete", got, api.OK, less(w.l, place))
	} else {
		w.done("Delete", got, api.ErrTableNone, nil)
	}
}

func (w *walker) set(l []api.Rule) {
	got := w.e.Set(l)
	if len(l) > w.most {
		w.done("Set", got, api.ErrTableFull, nil)
	} else {
		w.done("Set", got, api.OK, slices.Clone(l))
	}
}

func TestWalk(t *testing.T) {
	draw := drawer(29)
	for _, c := range []struct{ most, budget int }{{1, 1}, {2, 2}, {5, 9}, {12, 30}, {12, 1000}, {64, 300}, {64, api.MaxBudget}} {
		w := &walker{t: t, e: made(t, sized(c.most, c.budget)), most: c.most, budget: c.budget}
		for step := range 700 {
			id, place := 1+draw(c.most+c.most/2+1), draw(len(w.l)+3)-1
			switch draw(9) {
			case 0, 1, 2, 3, 4:
				r := drawRule(draw, id)
				if draw(10) == 0 {
					r.Action = 5
				}
				w.insert(place, r)
			case 5, 6, 7:
				w.delete(id)
			case 8:
				w.set(drawRules(draw, draw(c.most+3)))
			}
			has(t, "step "+strconv.Itoa(step), w.e, w.l, api.Queue, near(draw, w.l, 12))
			if t.Failed() {
				return
			}
		}
		if c.budget < 1000 && c.most > 1 && w.rooms < 10 {
			t.Errorf("only %d times no room, with %+v", w.rooms, c)
		}
	}
}

// R2

func TestListsThatAreHandedInStayAndAreNotKept(t *testing.T) {
	room := drawRules(drawer(30), 20)
	l, want := room[:12], slices.Clone(room)
	e := made(t, roomy())
	sameErr(t, "Set", e.Set(l), api.OK)
	sameErr(t, "Insert", e.Insert(12, every(500, api.Log)), api.OK)
	sameErr(t, "Delete", e.Delete(l[0].Id), api.OK)
	if !slices.Equal(room, want) {
		t.Error("the list was written into")
	}
	now := append(slices.Clone(l[1:]), every(500, api.Log))
	clear(room)
	has(t, "behind another list", e, now, api.Queue, near(drawer(31), now, 300))
	x := made(t, sized(64, 5), some(5)...)
	refusedList := slices.Clone(want[:15])
	sameErr(t, "Set", x.Set(refusedList), api.ErrGridRoom)
	if !slices.Equal(refusedList, want[:15]) {
		t.Error("the list that was refused was written into")
	}
}

func TestEnginesKnowNothingOfOneAnother(t *testing.T) {
	l := deep(addr(10, 1, 2, 3), math.MaxUint32, 4)
	heads := crossed(l)
	x, y := made(t, roomy(), l...), made(t, roomy())
	sameErr(t, "Set", y.Set(l), api.OK)
	sameErr(t, "Delete", y.Delete(3), api.OK)
	sameErr(t, "Insert", y.Insert(0, every(500, api.Log)), api.OK)
	has(t, "one", x, l, api.Queue, heads)
	has(t, "the other", y, more(less(l, 2), 0, every(500, api.Log)), api.Queue, heads)
	sameErr(t, "Set", x.Set(nil), api.OK)
	has(t, "one without rules", x, nil, api.Queue, heads)
	has(t, "the other", y, more(less(l, 2), 0, every(500, api.Log)), api.Queue, heads)
}

// Asking writes nothing, so that several may ask at once.
func TestAskFromSeveralSides(t *testing.T) {
	l := drawRules(drawer(32), 30)
	heads := near(drawer(33), l, 200)
	e := made(t, roomy(), l...)
	want := tell(e, heads)
	got := make(chan told)
	for range 8 {
		go func() { got <- tell(e, heads) }()
	}
	for range 8 {
		if !(<-got).equal(want) {
			t.Error("other answers")
		}
	}
}

// R3

func TestNilEngine(t *testing.T) {
	var e *grid.Engine
	for _, r := range []api.Rule{every(1, api.Log), {}} {
		for _, place := range append([]int{0, 1}, farPlaces...) {
			sameErr(t, "Insert", e.Insert(place, r), api.ErrNil)
		}
	}
	for _, id := range []int{0, 1, -1, 1000000} {
		sameErr(t, "Delete", e.Delete(id), api.ErrNil)
	}
	for _, l := range [][]api.Rule{nil, {}, some(3), some(65), {{}}, alike(2)[1:], {every(1, api.Log), every(1, api.Log)}} {
		sameErr(t, "Set", e.Set(l), api.ErrNil)
	}
	for _, h := range fewHeaders() {
		if v, s := e.Ask(h); v != (api.Verdict{}) || s != (api.Steps{}) {
			t.Errorf("Ask(%+v) = %+v, %+v", h, v, s)
		}
	}
	if s := e.Stats(); s != (api.Stats{}) {
		t.Errorf("Stats() = %+v", s)
	}
}

// An engine that New did not make has no table; no call panics on it.
func TestAnEngineThatNewDidNotMake(t *testing.T) {
	e := &grid.Engine{}
	sameErr(t, "Insert", e.Insert(0, every(1, api.Log)), api.ErrNil)
	sameErr(t, "Delete", e.Delete(1), api.ErrNil)
	sameErr(t, "Set", e.Set(some(2)), api.ErrNil)
	if v, s := e.Ask(api.Header{}); v.Hit || s.Rules != 0 || e.Stats() != (api.Stats{}) {
		t.Errorf("Ask = %+v, %+v; Stats() = %+v", v, s, e.Stats())
	}
}

// Of what is embedded an engine gives out nothing: a call of it on a nil engine would panic, and one that changes the rules would pass the tries by.
func TestAnEngineGivesOutItsOwnCallsAlone(t *testing.T) {
	var names []string
	for m := range reflect.TypeFor[*grid.Engine]().Methods() {
		names = append(names, m.Name)
	}
	if want := []string{"Ask", "Delete", "Insert", "Set", "Stats"}; !slices.Equal(names, want) {
		t.Errorf("calls: %v, wanted %v", names, want)
	}
}

// The chapter's table of examples, row by row.
func TestExamples(t *testing.T) {
	a, b := every(1, api.Permit), every(2, api.Log)
	a.Src = api.Prefix{Addr: addr(10, 0, 0, 0), Len: 8}
	b.Dst = api.Prefix{Addr: addr(10, 0, 0, 0), Len: 8}
	e := made(t, config())
	sameErr(t, "Insert(0, A)", e.Insert(0, a), api.OK)
	sameErr(t, "Insert(1, B)", e.Insert(1, b), api.OK)
	sameErr(t, "Insert(0, A)", e.Insert(0, a), api.ErrTableTwice)

	first := api.Header{Src: addr(10, 1, 1, 1), Dst: addr(10, 2, 2, 2)}
	for _, q := range []struct {
		h    api.Header
		want api.Verdict
	}{
		{first, api.Verdict{Hit: true, Id: 1, Action: api.Permit}},
		{api.Header{Src: addr(9, 9, 9, 9), Dst: addr(10, 2, 2, 2)}, api.Verdict{Hit: true, Id: 2, Action: api.Log}},
		{api.Header{Src: addr(9, 9, 9, 9), Dst: addr(9, 9, 9, 9)}, api.Verdict{Action: api.Deny}},
	} {
		if v, _ := e.Ask(q.h); v != q.want {
			t.Errorf("Ask(%+v) = %+v, wanted %+v", q.h, v, q.want)
		}
	}

	c := config()
	c.Grid = 2
	x := made(t, c, a)
	sameErr(t, "Insert(1, B) with Grid 2", x.Insert(1, b), api.ErrGridRoom)
	c.Grid = 3
	sameErr(t, "Insert(1, B) with Grid 3", made(t, c, a).Insert(1, b), api.OK)

	sameErr(t, "Delete(1)", e.Delete(1), api.OK)
	if v, _ := e.Ask(first); v != (api.Verdict{Hit: true, Id: 2, Action: api.Log}) {
		t.Errorf("Ask behind Delete = %+v", v)
	}
}
