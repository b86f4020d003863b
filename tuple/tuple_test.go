package tuple_test

import (
	"math"
	"reflect"
	"slices"
	"strconv"
	"testing"

	"quintet/api"
	"quintet/nest"
	"quintet/table"
	"quintet/tuple"
)

const (
	lastAddr = math.MaxUint32
	lastPort = math.MaxUint16
)

// every is the rule of all headers, written out.
func every(id int, a api.Action) api.Rule {
	return api.Rule{
		Id: id, Src: api.Prefix{Addr: 0, Len: 0}, Dst: api.Prefix{Addr: 0, Len: 0},
		Sport: api.Span{Lo: 0, Hi: lastPort}, Dport: api.Span{Lo: 0, Hi: lastPort},
		Proto: api.Mask{Value: 0, Care: 0}, Action: a,
	}
}

// with is the rule of all headers with some of its fields changed; its action follows from its Id.
func with(id int, changes ...func(*api.Rule)) api.Rule {
	r := every(id, api.Action(1+id%4))
	for _, change := range changes {
		change(&r)
	}
	return r
}

func src(addr uint32, n int) func(*api.Rule) {
	return func(r *api.Rule) { r.Src = pre(addr, n) }
}

func dst(addr uint32, n int) func(*api.Rule) {
	return func(r *api.Rule) { r.Dst = pre(addr, n) }
}

func sport(lo, hi uint16) func(*api.Rule) {
	return func(r *api.Rule) { r.Sport = api.Span{Lo: lo, Hi: hi} }
}

func dport(lo, hi uint16) func(*api.Rule) {
	return func(r *api.Rule) { r.Dport = api.Span{Lo: lo, Hi: hi} }
}

func proto(value, care uint8) func(*api.Rule) {
	return func(r *api.Rule) { r.Proto = api.Mask{Value: value, Care: care} }
}

// pre is the prefix of so many bits of an address.
func pre(addr uint32, n int) api.Prefix {
	return api.Prefix{Addr: uint32(uint64(addr) >> (32 - n) << (32 - n)), Len: n}
}

func addr(a, b, c, d uint32) uint32 { return a<<24 | b<<16 | c<<8 | d }

// config is the one of the chapter's examples.
func config() api.Config {
	return api.Config{Max: 10, Default: api.Deny, Prune: 100, Grid: 100, Tuple: 100, Binth: 4, Depth: 8}
}

// sized is a configuration with this Max and this budget. No other budget is asked for by this engine, so the others are 0.
func sized(most, budget int) api.Config {
	return api.Config{Max: most, Default: api.Queue, Tuple: budget, Binth: 1}
}

// roomy is a configuration that has room for all lists that may be.
func roomy() api.Config { return sized(api.MaxRules, api.MaxBudget) }

func sameErr(t *testing.T, what string, got, want api.Errno) {
	t.Helper()
	if got != want {
		t.Errorf("%s: %d, wanted %d", what, got, want)
	}
}

// made is an engine with these rules, put behind one another by Insert.
func made(t *testing.T, c api.Config, l ...api.Rule) *tuple.Engine {
	t.Helper()
	e, err := tuple.New(c)
	if err != api.OK || e == nil {
		t.Fatalf("New(%+v): %v, %d", c, e, err)
	}
	for i, r := range l {
		if err := e.Insert(i, r); err != api.OK {
			t.Fatalf("Insert(%d, %+v): %d", i, r, err)
		}
	}
	return e
}

// The models.

// begins says by division whether an address is in a prefix that may be.
func begins(p api.Prefix, addr uint32) bool {
	n := uint64(1) << (32 - p.Len)
	return uint64(p.Addr)/n == uint64(addr)/n
}

// matches is DOC.md's word, of a rule that may be.
func matches(r api.Rule, h api.Header) bool {
	return begins(r.Src, h.Src) && begins(r.Dst, h.Dst) &&
		r.Sport.Lo <= h.Sport && h.Sport <= r.Sport.Hi && r.Dport.Lo <= h.Dport && h.Dport <= r.Dport.Hi &&
		(h.Proto^r.Proto.Value)&r.Proto.Care == 0
}

// decides is the model's Ask: the last rule is asked first, so that an earlier one writes over it.
func decides(l []api.Rule, other api.Action, h api.Header) api.Verdict {
	v := api.Verdict{Action: other}
	for i := len(l) - 1; i >= 0; i-- {
		if matches(l[i], h) {
			v = api.Verdict{Hit: true, Id: l[i].Id, Action: l[i].Action}
		}
	}
	return v
}

// less is the model's Delete: a new list without the rule of that place.
func less(l []api.Rule, place int) []api.Rule {
	return slices.Delete(slices.Clone(l), place, place+1)
}

// more is the model's Insert: a new list with the rule at that place.
func more(l []api.Rule, place int, r api.Rule) []api.Rule {
	return slices.Insert(slices.Clone(l), place, r)
}

func placeOf(l []api.Rule, id int) int {
	return slices.IndexFunc(l, func(r api.Rule) bool { return r.Id == id })
}

// stemsOf is the model's expansion: the span is halved till each part is a stem's.
func stemsOf(s api.Span) []api.Stem {
	var list []api.Stem
	var halve func(t api.Stem)
	halve = func(t api.Stem) {
		lo, hi := int(t.Bits), int(t.Bits)+1<<(16-t.Len)-1
		switch {
		case hi < int(s.Lo) || int(s.Hi) < lo:
		case int(s.Lo) <= lo && hi <= int(s.Hi):
			list = append(list, t)
		default:
			halve(api.Stem{Bits: t.Bits, Len: t.Len + 1})
			halve(api.Stem{Bits: t.Bits | 1<<(15-t.Len), Len: t.Len + 1})
		}
	}
	halve(api.Stem{})
	return list
}

// sizeOf is nest.Tuple of a list that may be.
func sizeOf(t *testing.T, l []api.Rule) int {
	t.Helper()
	size, err := nest.Tuple(l)
	if err != api.OK {
		t.Fatalf("nest.Tuple(%v): %d", l, err)
	}
	return size
}

// Rules and headers that are drawn.

// drawer gives numbers by a rule that goes all about, the same each time.
func drawer(state uint64) func(n int) int {
	return func(n int) int {
		state = state*6364136223846793005 + 1442695040888963407
		return int(state >> 33 % uint64(n))
	}
}

// drawPrefix cuts one of few addresses, so that many of the prefixes lie within one another; /0 and /32 are frequent.
func drawPrefix(draw func(int) int) api.Prefix {
	at := []uint32{addr(10, 1, 2, 3), addr(10, 1, 2, 2), addr(138, 200, 0, 1), 0, lastAddr, 1 << 31}[draw(6)]
	return pre(at, []int{0, 0, 32, 8, 31, draw(5), draw(33)}[draw(7)])
}

// drawSpan is often one of several that lie within one another, or one that begins or ends where all ports do.
func drawSpan(draw func(int) int) api.Span {
	wide := uint16(1) << draw(15)
	at := uint16(draw(lastPort + 1))
	return []api.Span{
		{Hi: lastPort}, {Hi: lastPort}, {Lo: 32768 - wide, Hi: 32767 + wide}, {Lo: 40000 - wide, Hi: 40000 + wide/2},
		{Hi: at}, {Lo: at, Hi: lastPort}, {}, {Lo: lastPort, Hi: lastPort}, {Lo: 80, Hi: 80}, {Lo: at, Hi: at},
	}[draw(10)]
}

// drawMask often cares for all bits or none, else for some here and there.
func drawMask(draw func(int) int) api.Mask {
	care := uint8(draw(256))
	some := api.Mask{Value: uint8(draw(256)) & care, Care: care}
	return []api.Mask{{}, {}, {Value: 6, Care: 255}, {Value: 1, Care: 1}, {Care: 0x80}, {Value: 255, Care: 255}, some, some}[draw(8)]
}

func drawRule(draw func(int) int, id int) api.Rule {
	return api.Rule{
		Id: id, Action: api.Action(1 + draw(4)), Src: drawPrefix(draw), Dst: drawPrefix(draw),
		Sport: drawSpan(draw), Dport: drawSpan(draw), Proto: drawMask(draw),
	}
}

// drawRules are n rules that may be, the Ids from 1 on, in any order.
func drawRules(draw func(int) int, n int) []api.Rule {
	l := make([]api.Rule, n)
	for i := range l {
		l[i] = drawRule(draw, i+1)
		other := draw(i + 1)
		l[i].Id, l[other].Id = l[other].Id, l[i].Id
	}
	return l
}

// ends are the addresses at which a prefix begins and ends, and those beside them.
func ends(p api.Prefix) []uint32 {
	last := p.Addr + uint32(uint64(1)<<(32-p.Len)-1)
	return []uint32{p.Addr, last, p.Addr - 1, last + 1}
}

// near are n headers, drawn from where the rules' fields begin and end, and from beside that; mostly of two rules.
func near(draw func(int) int, l []api.Rule, n int) []api.Header {
	l = append([]api.Rule{every(1, api.Deny)}, l...)
	heads := make([]api.Header, n)
	for i := range heads {
		a, b := l[draw(len(l))], l[draw(len(l))]
		if draw(3) == 0 {
			b = a
		}
		heads[i] = api.Header{
			Src: ends(a.Src)[draw(10)%4], Dst: ends(b.Dst)[draw(10)%4],
			Sport: []uint16{a.Sport.Lo, a.Sport.Hi, a.Sport.Lo - 1, a.Sport.Hi + 1}[draw(10)%4],
			Dport: []uint16{b.Dport.Lo, b.Dport.Hi, b.Dport.Lo - 1, b.Dport.Hi + 1}[draw(10)%4],
			Proto: []uint8{a.Proto.Value, b.Proto.Value, a.Proto.Value | ^a.Proto.Care, ^a.Proto.Value}[draw(4)],
		}
	}
	return heads
}

// fewHeaders have an edge, or a number amid them, in each field.
func fewHeaders() []api.Header {
	var list []api.Header
	for _, src := range []uint32{0, addr(10, 1, 2, 3), 1 << 31, lastAddr} {
		for _, dst := range []uint32{0, addr(10, 1, 2, 3), 1<<31 - 1, lastAddr} {
			for _, sport := range []uint16{0, 80, lastPort} {
				for _, dport := range []uint16{0, 80, lastPort} {
					for _, proto := range []uint8{0, 6, 255} {
						list = append(list, api.Header{Src: src, Dst: dst, Sport: sport, Dport: dport, Proto: proto})
					}
				}
			}
		}
	}
	return list
}

// some are n rules that may be, no two of which match one header: the Ids from 1 on.
func some(n int) []api.Rule {
	l := make([]api.Rule, n)
	for i := range l {
		l[i] = with(i+1, src(uint32(i)<<24, 8))
	}
	return l
}

// alike are n rules of all headers.
func alike(n int) []api.Rule {
	l := make([]api.Rule, n)
	for i := range l {
		l[i] = every(i+1, api.Permit)
	}
	return l
}

// largest are 64 rules with as many stems as spans of ports may have, and prefixes and masks of many kinds.
func largest() []api.Rule {
	l := make([]api.Rule, api.MaxRules)
	for n := range l {
		l[n] = with(n+1, src(addr(10, 1, 2, 3), n/2), dst(lastAddr, 32-n/2), sport(1, lastPort-1), dport(1, lastPort-1), proto(0, uint8(n)))
	}
	return l
}

// What is held against what.

// answers holds what an engine says of headers, and what it counts, against the rules that it is to have (P19.3).
func answers(t *testing.T, what string, e *tuple.Engine, c api.Config, l []api.Rule, heads []api.Header) {
	t.Helper()
	size := e.Stats()
	for _, h := range heads {
		v, s := e.Ask(h)
		if want := decides(l, c.Default, h); v != want {
			t.Fatalf("%s: Ask(%+v) = %+v, wanted %+v of %v", what, h, v, want, l)
		}
		least, mostProbes := 0, size.Slots-1
		if v.Hit {
			least = 1
		}
		if s.Tables == 0 {
			mostProbes = 0
		}
		if s.Tables < 0 || s.Tables > size.Tables || s.Probes < min(s.Tables, 1) || s.Probes > mostProbes || s.Rules < least || s.Rules > len(l) || s.Nodes != 0 || s.Depth != 0 {
			t.Fatalf("%s: Ask(%+v) counts %+v; at least %d of %v; %+v", what, h, s, least, l, size)
		}
		if v2, s2 := e.Ask(h); v2 != v || s2 != s {
			t.Fatalf("%s: Ask(%+v) = %+v, %+v, then %+v, %+v", what, h, v, s, v2, s2)
		}
	}
}

// bounded holds what an engine says of its size against the rules that it is to have (P19.4).
func bounded(t *testing.T, what string, e *tuple.Engine, l []api.Rule) {
	t.Helper()
	size := sizeOf(t, l)
	s := e.Stats()
	if s.Tables < min(len(l), 1) || s.Tables > s.Entries || s.Entries < len(l) || s.Entries > size || s.Slots < 0 || s.Tables == 0 && s.Slots != 0 || s.Nodes != 0 {
		t.Fatalf("%s: Stats() = %+v; Tuple %d, %d rules: %v", what, s, size, len(l), l)
	}
}

// has holds both against them.
func has(t *testing.T, what string, e *tuple.Engine, c api.Config, l []api.Rule, heads []api.Header) {
	t.Helper()
	answers(t, what, e, c, l, heads)
	bounded(t, what, e, l)
}

// told is all that an engine tells: of each header the verdict and what is counted, and its size.
type told struct {
	verdicts []api.Verdict
	steps    []api.Steps
	stats    api.Stats
}

func tell(e *tuple.Engine, heads []api.Header) told {
	var all told
	for _, h := range heads {
		v, s := e.Ask(h)
		all.verdicts, all.steps = append(all.verdicts, v), append(all.steps, s)
	}
	all.stats = e.Stats()
	return all
}

func (a told) equal(b told) bool {
	return slices.Equal(a.verdicts, b.verdicts) && slices.Equal(a.steps, b.steps) && a.stats == b.stats
}

// refusal is a call that is to be refused, and by which number.
type refusal struct {
	what string
	call func(e *tuple.Engine) api.Errno
	want api.Errno
}

// refused makes the calls one behind the other; behind each of them the engine tells what it told ahead of it.
func refused(t *testing.T, e *tuple.Engine, l []api.Rule, calls []refusal) {
	t.Helper()
	heads := append(fewHeaders()[:40:40], near(drawer(3), l, 40)...)
	before := tell(e, heads)
	for _, c := range calls {
		sameErr(t, c.what, c.call(e), c.want)
		if !tell(e, heads).equal(before) {
			t.Errorf("%s: refused, and changed", c.what)
		}
	}
}

func inserting(what string, place int, r api.Rule, want api.Errno) refusal {
	return refusal{"Insert, " + what, func(e *tuple.Engine) api.Errno { return e.Insert(place, r) }, want}
}

func deleting(id int, want api.Errno) refusal {
	return refusal{"Delete of " + strconv.Itoa(id), func(e *tuple.Engine) api.Errno { return e.Delete(id) }, want}
}

func setting(what string, want api.Errno, l ...api.Rule) refusal {
	return refusal{"Set, " + what, func(e *tuple.Engine) api.Errno { return e.Set(l) }, want}
}

// wrongRule is a rule that may not be, and why.
type wrongRule struct {
	rule api.Rule
	err  api.Errno
}

// wrongRules are rules with this Id that may not be for each of their other fields, and some for the Id.
func wrongRules(id int) []wrongRule {
	change := func(err api.Errno, write func(*api.Rule)) wrongRule { return wrongRule{with(id, write), err} }
	return []wrongRule{
		change(api.ErrRuleId, func(r *api.Rule) { r.Id = 0 }),
		change(api.ErrRuleId, func(r *api.Rule) { r.Id = -1 }),
		change(api.ErrRuleId, func(r *api.Rule) { r.Id = 1000000 }),
		change(api.ErrRuleId, func(r *api.Rule) { *r = api.Rule{} }),
		change(api.ErrPrefixLen, func(r *api.Rule) { r.Src.Len = 33 }),
		change(api.ErrPrefixLen, func(r *api.Rule) { r.Dst.Len = -1 }),
		change(api.ErrPrefixBits, func(r *api.Rule) { r.Src.Addr = 1 << 31 }),
		change(api.ErrPrefixBits, func(r *api.Rule) { r.Dst.Addr = 1 }),
		change(api.ErrSpanEnds, sport(2, 1)),
		change(api.ErrSpanEnds, dport(lastPort, 0)),
		change(api.ErrMaskBits, proto(2, 1)),
		change(api.ErrRuleAction, func(r *api.Rule) { r.Action = 0 }),
		change(api.ErrRuleAction, func(r *api.Rule) { r.Action = 5 }),
	}
}

// farPlaces are numbers that are no place of any engine.
var farPlaces = []int{-1, -2, 65, 1000000, math.MinInt, math.MinInt32, math.MaxInt32, math.MaxInt}

// P19.1

// configs are configurations with one field at or beyond an edge each.
func configs() []api.Config {
	fields := []struct {
		write   func(c *api.Config, n int)
		numbers []int
	}{
		{func(c *api.Config, n int) { c.Max = n }, []int{0, 1, 2, 64, 65}},
		{func(c *api.Config, n int) { c.Default = api.Action(n) }, []int{0, 1, 2, 3, 4, 5}},
		{func(c *api.Config, n int) { c.Prune = n }, []int{0, 1, 1048576, 1048577}},
		{func(c *api.Config, n int) { c.Grid = n }, []int{0, 1, 1048576, 1048577}},
		{func(c *api.Config, n int) { c.Tuple = n }, []int{0, 1, 1048576, 1048577}},
		{func(c *api.Config, n int) { c.Binth = n }, []int{0, 1, 16, 17}},
		{func(c *api.Config, n int) { c.Depth = n }, []int{0, 1, 10, 11}},
	}
	list := []api.Config{{}, config(), roomy()}
	for _, f := range fields {
		for _, n := range append(f.numbers, -1, math.MinInt, math.MaxInt) {
			c := config()
			f.write(&c, n)
			list = append(list, c)
		}
	}
	return list
}

func TestNew(t *testing.T) {
	good, wrong := 0, 0
	for _, c := range configs() {
		e, err := tuple.New(c)
		want := table.Check(c)
		if err != want || (e == nil) != (want != api.OK) {
			t.Errorf("New(%+v) = %v, %d, wanted %d", c, e, err, want)
			continue
		}
		if want != api.OK {
			wrong++
			continue
		}
		good++
		has(t, "a new engine", e, c, nil, fewHeaders())
		sameErr(t, "Delete", e.Delete(1), api.ErrTableNone)
	}
	if good < 20 || wrong < 20 {
		t.Errorf("%d configurations that may be, %d that may not", good, wrong)
	}
}

func TestNewSaysWhatMayNotBe(t *testing.T) {
	for _, write := range []func(*api.Config){
		func(c *api.Config) { c.Max = 0 }, func(c *api.Config) { c.Max = 65 },
		func(c *api.Config) { c.Default = 0 }, func(c *api.Config) { c.Default = 5 },
		func(c *api.Config) { c.Prune = -1 }, func(c *api.Config) { c.Grid = 1048577 }, func(c *api.Config) { c.Tuple = -1 },
		func(c *api.Config) { c.Binth = 0 }, func(c *api.Config) { c.Binth = 17 },
		func(c *api.Config) { c.Depth = -1 }, func(c *api.Config) { c.Depth = 11 },
		func(c *api.Config) { *c = api.Config{} },
	} {
		c := config()
		write(&c)
		if e, err := tuple.New(c); e != nil || err != api.ErrTableConfig {
			t.Errorf("New(%+v) = %v, %d", c, e, err)
		}
	}
}

// P19.2

func TestInsertAtEveryPlace(t *testing.T) {
	for _, n := range []int{0, 1, 2, 3, 7} {
		base := some(n)
		for i := range base {
			base[i].Src = pre(0, i) // all of them have 0.0.0.0, so that the place decides
		}
		for place := range n + 1 {
			c := sized(n+1, api.MaxBudget)
			e := made(t, c, base...)
			r := with(500, dport(0, 1000))
			sameErr(t, "Insert", e.Insert(place, r), api.OK)
			l := more(base, place, r)
			has(t, "behind Insert at "+strconv.Itoa(place), e, c, l, append(near(drawer(6), l, 200), fewHeaders()...))
		}
	}
}

func TestInsertThatIsRefused(t *testing.T) {
	const n = 3
	for _, most := range []int{n, n + 1} { // full, and with room
		c := sized(most, api.MaxBudget)
		e := made(t, c, some(n)...)
		var calls []refusal
		for id := 1; id <= n+1; id++ { // three that are there, and one more
			for _, place := range []int{-1, 0, n, n + 1} {
				for _, w := range wrongRules(id) {
					calls = append(calls, inserting("a rule that may not be", place, w.rule, w.err))
				}
				if id <= n {
					calls = append(calls, inserting("an Id that is there", place, every(id, api.Log), api.ErrTableTwice))
				}
			}
		}
		for _, place := range append([]int{n + 1, n + 2}, farPlaces...) {
			calls = append(calls, inserting("no place", place, every(500, api.Log), api.ErrTablePlace))
		}
		if most == n {
			for place := range n + 1 {
				calls = append(calls, inserting("full", place, every(500, api.Log), api.ErrTableFull))
			}
		}
		refused(t, e, some(n), calls)
		has(t, "behind what was refused", e, c, some(n), fewHeaders())
	}
}

func TestMax(t *testing.T) {
	for _, most := range []int{1, 2, 5, 63, 64} {
		l := some(most)
		c := sized(most, api.MaxBudget)
		e := made(t, c, l...)
		refused(t, e, l, []refusal{
			inserting("full", 0, every(500, api.Log), api.ErrTableFull),
			inserting("full", most, every(500, api.Log), api.ErrTableFull),
			setting("too many", api.ErrTableFull, some(most+1)...),
		})
		has(t, "a full engine", e, c, l, near(drawer(5), l, 300))
		sameErr(t, "Set of the most", e.Set(l), api.OK)
		sameErr(t, "Delete", e.Delete(1), api.OK)
		sameErr(t, "Insert where one is gone", e.Insert(0, every(500, api.Log)), api.OK)
		sameErr(t, "Insert into a full engine", e.Insert(0, every(501, api.Log)), api.ErrTableFull)
	}
}

func TestDeleteOfEachRule(t *testing.T) {
	draw := drawer(21)
	c := roomy()
	for _, n := range []int{1, 2, 3, 9, 20} {
		l := drawRules(draw, n)
		heads := near(draw, l, 200)
		for place, r := range l {
			e := made(t, c, l...)
			sameErr(t, "Delete", e.Delete(r.Id), api.OK)
			has(t, "behind Delete", e, c, less(l, place), heads)
			sameErr(t, "Delete once more", e.Delete(r.Id), api.ErrTableNone)
			sameErr(t, "Insert once more", e.Insert(place, r), api.OK)
			has(t, "behind both", e, c, l, heads)
		}
	}
}

func TestDeleteOfNone(t *testing.T) {
	for _, n := range []int{0, 1, 5} {
		e := made(t, roomy(), some(n)...)
		var calls []refusal
		for _, id := range []int{n + 1, 0, -1, 999999, 1000000, math.MinInt, math.MaxInt} {
			calls = append(calls, deleting(id, api.ErrTableNone))
		}
		refused(t, e, some(n), calls)
	}
}

func TestSet(t *testing.T) {
	draw := drawer(22)
	c := roomy()
	e := made(t, c)
	for _, n := range []int{5, 0, 64, 1, 0, 20, 3} {
		l := drawRules(draw, n)
		sameErr(t, "Set", e.Set(l), api.OK)
		has(t, "behind Set of "+strconv.Itoa(n), e, c, l, near(draw, l, 150))
	}
	for _, none := range [][]api.Rule{nil, {}} {
		sameErr(t, "Set", e.Set(drawRules(draw, 7)), api.OK)
		sameErr(t, "Set of none", e.Set(none), api.OK)
		has(t, "behind Set of none", e, c, nil, fewHeaders())
	}
}

func TestSetThatIsRefused(t *testing.T) {
	const most = 4
	l := some(most)
	var calls []refusal
	for place := range l {
		for _, w := range wrongRules(100) {
			wrong := slices.Clone(l)
			wrong[place] = w.rule
			calls = append(calls, setting("a rule that may not be", w.err, wrong...))
			calls = append(calls, setting("a rule that may not be, then two of one Id", w.err, append(wrong, l...)...))
			calls = append(calls, setting("a rule that may not be, behind two of one Id", api.ErrTableTwice, append([]api.Rule{every(7, api.Log), every(7, api.Log)}, wrong...)...))
		}
		for other := range place {
			twice := slices.Clone(l)
			twice[place].Id = l[other].Id
			calls = append(calls, setting("two of one Id", api.ErrTableTwice, twice...))
		}
	}
	calls = append(calls,
		setting("one too many", api.ErrTableFull, some(most+1)...),
		setting("many too many", api.ErrTableFull, some(200)...),
		setting("too many, and then one that may not be", api.ErrTableFull, append(some(most+1), api.Rule{})...),
		setting("too many, which may not be", api.ErrRuleId, append(some(most), api.Rule{})...),
		setting("too many, whose Id is there", api.ErrTableTwice, append(some(most), l[0])...),
	)
	refused(t, made(t, sized(most, api.MaxBudget), l...), l, calls)
	refused(t, made(t, sized(most, api.MaxBudget)), nil, calls)
}

// The room: by hand.
func TestRoomByHand(t *testing.T) {
	for _, c := range []struct {
		name string
		size int
		l    []api.Rule
	}{
		{"one rule of all", 1, []api.Rule{with(1)}},
		{"one rule of single ports", 1, []api.Rule{with(1, sport(80, 80), dport(0, 0))}},
		{"one rule of the greatest spans", 900, []api.Rule{with(1, sport(1, 65534), dport(1, 65534))}},
		{"two alike", 2, []api.Rule{with(1), with(2)}},
		{"two alike, of several stems", 8, []api.Rule{with(1, sport(1, 6)), with(2, sport(1, 6))}},
		{"prefixes and masks", 3, []api.Rule{with(1, src(lastAddr, 32)), with(2, dst(lastAddr, 32)), with(3, proto(1, 5))}},
		{"four stems by one", 5, []api.Rule{with(1), with(2, dport(1, 6))}},
		{"four by two", 9, []api.Rule{with(1, sport(80, 89), dport(1, 6)), with(2)}},
		{"chapter 14's", 4, []api.Rule{with(1, sport(1, 6))}},
		{"the upper ports", 7, []api.Rule{with(1, dport(1024, lastPort)), with(2, sport(0, 32767))}},
	} {
		last := len(c.l) - 1
		heads := near(drawer(7), c.l, 200)
		at, below := sized(64, c.size), sized(64, c.size-1)
		x := made(t, at, c.l...)
		has(t, c.name, x, at, c.l, heads)
		sameErr(t, c.name+": Set at the budget", x.Set(c.l), api.OK)
		has(t, c.name+": Set", x, at, c.l, heads)
		y := made(t, below, c.l[:last]...)
		refused(t, y, c.l[:last], []refusal{
			inserting(c.name+": one below", 0, c.l[last], api.ErrTupleRoom),
			inserting(c.name+": one below", last, c.l[last], api.ErrTupleRoom),
			setting(c.name+": one below", api.ErrTupleRoom, c.l...),
		})
		has(t, c.name+": refused", y, below, c.l[:last], heads)
	}
}

// The room: at the size itself, and one below, of Insert at any place and of Set.
func TestRoomExactly(t *testing.T) {
	draw := drawer(23)
	for range 150 {
		l := drawRules(draw, 1+draw(12))
		heads := near(draw, l, 60)
		place := draw(len(l))
		rest := less(l, place)
		size, fewer := sizeOf(t, l), sizeOf(t, rest)
		for _, budget := range []int{fewer, size - 1, size, size + 1} {
			want, now := api.OK, l
			if size > budget {
				want, now = api.ErrTupleRoom, rest
			}
			c := sized(64, budget)
			e := made(t, c)
			sameErr(t, "Set of fewer", e.Set(rest), api.OK)
			sameErr(t, "Insert", e.Insert(place, l[place]), want)
			has(t, "behind Insert", e, c, now, heads)
			sameErr(t, "Set of fewer", e.Set(rest), api.OK)
			sameErr(t, "Set", e.Set(l), want)
			has(t, "behind Set", e, c, now, heads)
		}
	}
}

// With a budget of 0 there may be no rule, with the greatest one there may be any.
func TestRoomAtItsEdges(t *testing.T) {
	c := sized(64, 0)
	e := made(t, c)
	refused(t, e, nil, []refusal{
		inserting("no budget", 0, every(1, api.Log), api.ErrTupleRoom),
		setting("no budget", api.ErrTupleRoom, every(1, api.Log)),
		setting("no budget, many", api.ErrTupleRoom, some(64)...),
	})
	sameErr(t, "Set of none", e.Set(nil), api.OK)
	has(t, "no budget", e, c, nil, fewHeaders())
	l := largest()
	if size := sizeOf(t, l); size != 64*900 {
		t.Errorf("the largest: %d", size)
	}
	c = sized(64, 64*900)
	x := made(t, c)
	sameErr(t, "Set", x.Set(l), api.OK)
	has(t, "the largest", x, c, l, near(drawer(2), l, 100))
	y := made(t, sized(64, 64*900-1))
	sameErr(t, "Set", y.Set(l[:63]), api.OK)
	refused(t, y, l[:63], []refusal{inserting("the largest", 63, l[63], api.ErrTupleRoom), setting("the largest", api.ErrTupleRoom, l...)})
}

// No other budget is asked for.
func TestRoomIsThatOfTupleAlone(t *testing.T) {
	c := config()
	c.Prune, c.Grid, c.Tuple, c.Binth, c.Depth = 0, 0, 9, 1, 0
	var l []api.Rule
	for n := range 9 {
		l = append(l, with(n+1, src(lastAddr, 32-4*n), dst(lastAddr, 4*n)))
	}
	has(t, "no room elsewhere", made(t, c, l...), c, l, near(drawer(8), l, 200))
}

// Table's errors come ahead of the room's.
func TestRoomComesLast(t *testing.T) {
	l := some(3)
	large := []api.Rule{with(1, dport(1, 6)), with(2)}
	for _, most := range []int{3, 64} {
		e := made(t, sized(most, 3), l...)
		var calls []refusal
		for _, w := range wrongRules(9) {
			calls = append(calls, inserting("a rule that may not be", 0, w.rule, w.err))
			calls = append(calls, setting("a rule that may not be", w.err, append(slices.Clone(l[:2]), w.rule)...))
			calls = append(calls, setting("a rule that may not be, behind too large ones", w.err, append(slices.Clone(large), w.rule)...))
		}
		calls = append(calls,
			inserting("an Id that is there", 0, with(1, dport(1, 6)), api.ErrTableTwice),
			inserting("no place", -1, with(9, dport(1, 6)), api.ErrTablePlace),
			inserting("no place", 4, with(9, dport(1, 6)), api.ErrTablePlace),
			setting("two of one Id", api.ErrTableTwice, append(slices.Clone(large), with(1))...),
		)
		last := api.ErrTupleRoom
		if most == 3 {
			last = api.ErrTableFull
		}
		calls = append(calls,
			inserting("full, or no room", 0, with(9, dport(1, 6)), last),
			inserting("full, or no room", 3, every(9, api.Log), last),
			setting("full, or no room", last, append(slices.Clone(l), every(9, api.Log))...),
			setting("no room", api.ErrTupleRoom, large...),
			setting("of 65, no room", api.ErrTableFull, some(65)...),
			deleting(9, api.ErrTableNone),
		)
		refused(t, e, l, calls)
	}
}

func TestDeleteMakesRoom(t *testing.T) {
	a, b, c := with(1, dport(1, 6)), with(2, src(lastAddr, 8)), with(3, sport(80, 89), dport(80, 89)) // 4, 1 and 4 entries
	limit := sized(64, 5)
	heads := near(drawer(14), []api.Rule{a, b, c}, 300)
	e := made(t, limit, a, b)
	refused(t, e, []api.Rule{a, b}, []refusal{inserting("no room", 0, c, api.ErrTupleRoom), inserting("no room", 0, every(4, api.Log), api.ErrTupleRoom)})
	sameErr(t, "Delete", e.Delete(1), api.OK)
	sameErr(t, "Insert", e.Insert(0, c), api.OK) // 5 again
	has(t, "behind both", e, limit, []api.Rule{c, b}, heads)
	refused(t, e, []api.Rule{c, b}, []refusal{inserting("no room", 2, a, api.ErrTupleRoom)})
	sameErr(t, "Delete", e.Delete(3), api.OK)
	sameErr(t, "Insert", e.Insert(1, a), api.OK)
	has(t, "behind all", e, limit, []api.Rule{b, a}, heads)
	sameErr(t, "Delete", e.Delete(2), api.OK)
	refused(t, e, []api.Rule{a}, []refusal{setting("no room", api.ErrTupleRoom, a, c)})
	sameErr(t, "Set", e.Set([]api.Rule{a, b}), api.OK)
	has(t, "behind Set", e, limit, []api.Rule{a, b}, heads)
}

// P19.3

func TestAskByHand(t *testing.T) {
	host := addr(10, 1, 2, 3)
	l := []api.Rule{
		with(5, src(host, 32), dst(host, 32)),
		with(4, dport(80, 80), proto(6, 255)),
		with(6, src(host, 8)),
		with(7, dst(host, 31), sport(1000, 2000)),
		with(8, sport(1500, 1500), proto(1, 1)),
	}
	c := config()
	e := made(t, c, l...)
	for _, q := range []struct {
		name string
		h    api.Header
		id   int
	}{
		{"the first of several", api.Header{Src: host, Dst: host, Sport: 1500, Dport: 80, Proto: 6}, 5},
		{"the second one", api.Header{Src: host, Dst: host + 1, Dport: 80, Proto: 6}, 4},
		{"another port", api.Header{Src: host, Dst: host + 1, Dport: 81, Proto: 6}, 6},
		{"another protocol", api.Header{Src: host, Dst: host - 1, Dport: 80, Proto: 7}, 6},
		{"a shorter source", api.Header{Src: host + 1, Dst: host, Dport: 80, Proto: 7}, 6},
		{"no source but all", api.Header{Src: 1, Dst: host - 1, Sport: 1000, Dport: 1, Proto: 6}, 7},
		{"amid the ports", api.Header{Src: 1, Dst: host, Sport: 1500, Dport: 80, Proto: 7}, 7},
		{"the last of the ports", api.Header{Src: 1, Dst: host, Sport: 2000, Dport: 80, Proto: 7}, 7},
		{"beside the ports", api.Header{Src: 1, Dst: host, Sport: 2001, Dport: 80, Proto: 7}, 0},
		{"the last rule", api.Header{Src: 1, Dst: host + 1, Sport: 1500, Dport: 80, Proto: 255}, 8},
		{"none", api.Header{Src: 1, Dst: host + 1, Sport: 1500, Dport: 80, Proto: 254}, 0},
		{"none, one beside", api.Header{Src: addr(11, 0, 0, 0), Dst: host + 1, Sport: 1499, Dport: 81, Proto: 6}, 0},
	} {
		want := api.Verdict{Action: c.Default}
		if at := placeOf(l, q.id); at >= 0 {
			want = api.Verdict{Hit: true, Id: q.id, Action: l[at].Action}
		}
		if v, _ := e.Ask(q.h); v != want {
			t.Errorf("%s: Ask(%+v) = %+v, wanted %+v", q.name, q.h, v, want)
		}
	}
	has(t, "by hand", e, c, l, append(near(drawer(1), l, 300), fewHeaders()...))
}

func TestAskWithoutRules(t *testing.T) {
	for a := api.Deny; a <= api.Queue; a++ {
		c := roomy()
		c.Default = a
		e := made(t, c)
		for _, h := range fewHeaders() {
			if v, s := e.Ask(h); v != (api.Verdict{Action: a}) || s != (api.Steps{}) {
				t.Fatalf("Ask(%+v) = %+v, %+v", h, v, s)
			}
		}
		sameErr(t, "Insert", e.Insert(0, every(1, api.Log)), api.OK)
		sameErr(t, "Delete", e.Delete(1), api.OK)
		has(t, "no rule any more", e, c, nil, fewHeaders())
	}
}

// Where no rule matches, what is done by default is told, beside rules of each kind.
func TestAskWhereNoneMatches(t *testing.T) {
	h := api.Header{Src: 1, Dst: 1, Sport: 1, Dport: 1, Proto: 1}
	for a := api.Deny; a <= api.Queue; a++ {
		c := roomy()
		c.Default = a
		for _, beside := range []func(*api.Rule){src(0, 32), dst(1<<31, 1), sport(2, lastPort), dport(0, 0), proto(0, 1)} {
			l := []api.Rule{with(1, beside), with(2, beside), with(3, beside)}
			if v, _ := made(t, c, l...).Ask(h); v != (api.Verdict{Action: a}) {
				t.Errorf("Ask = %+v of %v", v, l)
			}
		}
	}
}

// Prefixes of all lengths, /0 and /32 among them, within one another; the rules in both orders.
func TestAskOfPrefixesWithinOneAnother(t *testing.T) {
	for _, step := range []int{1, 2, 8, 16, 32} {
		for _, from := range []uint32{0, addr(10, 1, 2, 3), lastAddr} {
			for _, to := range []uint32{0, lastAddr} {
				var l []api.Rule
				for n := 0; n <= 32; n += step {
					l = append(l, with(len(l)+1, src(from, 32-n), dst(to, n)))
				}
				heads := near(drawer(4), l, 150)
				for range 2 {
					has(t, "prefixes", made(t, roomy(), l...), roomy(), l, heads)
					slices.Reverse(l)
				}
			}
		}
	}
}

// Spans within one another: about a port in their midst, and from the first and the last port on.
func TestAskOfSpansWithinOneAnother(t *testing.T) {
	c := roomy()
	var l []api.Rule
	for n := range 16 {
		wide := uint16(1) << n
		l = append(l, with(len(l)+1, sport(32768-wide, 32767+wide), dport(0, wide-1)))
		l = append(l, with(len(l)+1, sport(lastPort-wide+1, lastPort), dport(40000-wide/2, 40000+wide/4)))
	}
	heads := near(drawer(8), l, 400)
	for range 2 {
		e := made(t, c)
		sameErr(t, "Set", e.Set(l), api.OK)
		has(t, "spans", e, c, l, heads)
		slices.Reverse(l)
	}
}

// At each port at which a span begins or ends, and at those beside it.
func TestAskAtEachEndOfASpan(t *testing.T) {
	for _, at := range []uint16{0, 1, 63, 64, 80, 255, 256, 16383, 16384, 32766, 32767, 32768, 32769, 49151, 49152, lastPort - 1, lastPort} {
		for _, to := range []uint16{at, at | 1, at | 63, at | 32767, lastPort} {
			l := []api.Rule{with(1, dport(at, to), proto(0, 1)), with(2, sport(at, to), proto(1, 1)), with(3, dport(0, at), sport(to, lastPort))}
			e := made(t, roomy(), l...)
			for _, p := range []uint16{at, at - 1, to, to + 1, 0, lastPort} {
				for _, q := range []uint16{at, at - 1, to, to + 1, 0, lastPort} {
					answers(t, "an end", e, roomy(), l, []api.Header{{Sport: p, Dport: q}, {Sport: p, Dport: q, Proto: 1}})
				}
			}
		}
	}
}

// Masks whose bits are cared for here and there, held against all protocols.
func TestAskOfMasks(t *testing.T) {
	draw := drawer(9)
	c := roomy()
	for range 80 {
		l := make([]api.Rule, 1+draw(40))
		for i := range l {
			care := uint8(draw(256))
			l[i] = with(i+1, proto(uint8(draw(256))&care, care), dport(0, uint16(draw(2))*lastPort))
		}
		e := made(t, c)
		sameErr(t, "Set", e.Set(l), api.OK)
		var heads []api.Header
		for p := range 256 {
			heads = append(heads, api.Header{Proto: uint8(p)}, api.Header{Dport: 1, Proto: uint8(p)})
		}
		has(t, "masks", e, c, l, heads)
	}
}

// At the first and the last number of each field, and those beside them.
func TestAskAtTheEdgesOfAllFields(t *testing.T) {
	l := []api.Rule{
		with(1, src(0, 32), dst(lastAddr, 32), sport(0, 0), dport(lastPort, lastPort), proto(0, 255)),
		with(2, src(lastAddr, 32), dst(0, 32), sport(lastPort, lastPort), dport(0, 0), proto(255, 255)),
		with(3, src(0, 32)), with(4, dst(lastAddr, 32), proto(255, 255)), with(5, sport(0, 0), proto(0, 255)),
		with(6, dport(lastPort, lastPort)), with(7, src(lastAddr, 31), dst(0, 31)), with(8, sport(lastPort-1, lastPort), dport(0, 1)),
	}
	var heads []api.Header
	for _, a := range []uint32{0, 1, lastAddr - 1, lastAddr} {
		for _, b := range []uint32{0, 1, lastAddr - 1, lastAddr} {
			for _, p := range []uint16{0, 1, lastPort - 1, lastPort} {
				for _, q := range []uint16{0, 1, lastPort - 1, lastPort} {
					for _, o := range []uint8{0, 1, 254, 255} {
						heads = append(heads, api.Header{Src: a, Dst: b, Sport: p, Dport: q, Proto: o})
					}
				}
			}
		}
	}
	c := roomy()
	has(t, "edges", made(t, c, l...), c, l, heads)
}

// A rule that has more headers hides those that stand behind it, in other tables too, and none that stands ahead of it.
func TestAskWhereARuleHidesOthers(t *testing.T) {
	h := api.Header{Src: 5, Dst: 5, Sport: 5, Dport: 5, Proto: 5}
	for _, narrow := range []func(*api.Rule){src(0, 1), dst(0, 1), sport(0, 32767), dport(0, 32767), proto(0, 128), src(0, 0)} {
		for n := range 5 {
			l := []api.Rule{with(1, narrow), with(2), with(3, narrow)}
			for i := range n {
				l = more(l, i, with(10+i, src(6, 32)))
			}
			for _, order := range [][]int{{0, 1, 2}, {1, 0, 2}, {2, 1, 0}} {
				list := slices.Clone(l)
				for i, from := range order {
					list[n+i] = l[n+from]
				}
				c := roomy()
				e := made(t, c, list...)
				answers(t, "hidden", e, c, list, []api.Header{h, {Src: 6, Dst: 5}, {Src: lastAddr, Dst: lastAddr, Sport: lastPort, Dport: lastPort, Proto: 255}})
			}
		}
	}
}

// All headers of a small world: prefixes of at most two bits, spans and masks that part it into few, and each of the parts that they make.
func TestAskOfASmallWorld(t *testing.T) {
	draw := drawer(34)
	part := func() api.Prefix { return pre(uint32(draw(4))<<30, draw(3)) }
	ports := func() api.Span {
		a, b := uint16(draw(3)), uint16(draw(3))
		return api.Span{Lo: min(a, b) * 30000, Hi: max(a, b)*30000 + 5535}
	}
	var heads []api.Header
	for i := range uint32(4 * 4 * 3 * 3 * 4) {
		heads = append(heads, api.Header{Src: i<<30 + 7, Dst: i/4<<30 + 7, Sport: uint16(i/16%3) * 30000, Dport: uint16(i/48%3)*30000 + 5535, Proto: uint8(i / 144)})
	}
	c := roomy()
	for range 150 {
		l := make([]api.Rule, 1+draw(20))
		for i := range l {
			l[i] = drawRule(draw, i+1)
			l[i].Src, l[i].Dst, l[i].Sport, l[i].Dport = part(), part(), ports(), ports()
			l[i].Proto.Care = uint8(draw(4))
			l[i].Proto.Value = uint8(draw(4)) & l[i].Proto.Care
		}
		e := made(t, c)
		sameErr(t, "Set", e.Set(l), api.OK)
		has(t, "a small world", e, c, l, heads)
	}
}

func TestAskOfManyLists(t *testing.T) {
	draw := drawer(24)
	hits, several := 0, 0
	c := roomy()
	for range 150 {
		l := drawRules(draw, draw(65))
		heads := near(draw, l, 150)
		has(t, "drawn", made(t, c, l...), c, l, heads)
		for _, h := range heads {
			n := 0
			for _, r := range l {
				if matches(r, h) {
					n++
				}
			}
			hits += min(n, 1)
			several += min(n/2, 1)
		}
	}
	if hits < 5000 || several < 1500 {
		t.Errorf("%d headers with a match, %d with several", hits, several)
	}
}

// All stems of a span are asked for: at each port where one begins or ends, and beside it.
func TestAskAtEachStem(t *testing.T) {
	for _, s := range []api.Span{{Lo: 1, Hi: 65534}, {Lo: 1, Hi: 6}, {Lo: 80, Hi: 89}, {Lo: 1024, Hi: lastPort}, {Lo: 0, Hi: 32766}, {Lo: 32767, Hi: 32768}, {Lo: 12345, Hi: 54321}} {
		var ports []uint16
		for _, stem := range stemsOf(s) {
			end := stem.Bits | uint16(lastPort>>stem.Len)
			ports = append(ports, stem.Bits-1, stem.Bits, end, end+1)
		}
		for _, l := range [][]api.Rule{
			{with(1, sport(s.Lo, s.Hi))}, {with(1, dport(s.Lo, s.Hi))},
			{with(2, sport(s.Lo, s.Hi), dport(s.Lo, s.Hi), src(lastAddr, 32)), with(1, sport(s.Lo, s.Hi), proto(6, 255)), with(3)},
		} {
			e := made(t, roomy(), l...)
			var heads []api.Header
			for i, p := range ports {
				q := ports[i*7%len(ports)]
				heads = append(heads, api.Header{Sport: p, Dport: q, Proto: 6}, api.Header{Src: lastAddr, Sport: q, Dport: p})
			}
			has(t, "stems", e, roomy(), l, heads)
		}
	}
}

// Rules of one tuple share a table, those of unlike ones don't: what one has is not seen in another.
func TestAskOfSeveralTables(t *testing.T) {
	h := api.Header{Src: addr(10, 1, 2, 3), Dst: addr(10, 9, 8, 7), Sport: 1500, Dport: 80, Proto: 6}
	fields := []func(*api.Rule){src(h.Src, 24), dst(h.Dst, 16), sport(1024, 2047), dport(80, 80), proto(6, 255)}
	var l []api.Rule
	for set := range 32 { // each set of the fields has a tuple of its own
		r := with(set + 1)
		for i, narrow := range fields {
			if set>>i&1 == 1 {
				narrow(&r)
			}
		}
		l = append(l, r)
	}
	var heads []api.Header
	for set := range 32 {
		o := h
		for i, leave := range []func(){func() { o.Src = 1 }, func() { o.Dst = 1 }, func() { o.Sport = 1 }, func() { o.Dport = 1 }, func() { o.Proto = 1 }} {
			if set>>i&1 == 1 {
				leave()
			}
		}
		heads = append(heads, o)
	}
	slices.Reverse(l) // the narrowest one first
	for from := range l {
		has(t, "several tables", made(t, roomy(), l[from:]...), roomy(), l[from:], heads)
		e := made(t, roomy(), l...)
		for _, r := range l[:from] {
			sameErr(t, "Delete", e.Delete(r.Id), api.OK)
		}
		has(t, "several tables, fewer", e, roomy(), l[from:], heads)
	}
}

// Two tables with many rules each, by turns: the one that is asked first may have found a rule far behind, or the only one that is ahead.
func TestAskOfFewTablesOfManyRules(t *testing.T) {
	draw := drawer(39)
	for range 20 {
		var l []api.Rule
		for i := range 64 {
			field := []func(uint32, int) func(*api.Rule){src, dst}[draw(2)]
			l = append(l, with(i+1, field(uint32(draw(20))<<24, 8)))
		}
		e := made(t, roomy())
		sameErr(t, "Set", e.Set(l), api.OK)
		var heads []api.Header
		for from := range uint32(21) {
			for to := range uint32(21) {
				heads = append(heads, api.Header{Src: from<<24 + 5, Dst: to<<24 + 5})
			}
		}
		has(t, "two tables", e, roomy(), l, heads)
		if s := e.Stats(); s.Tables > 64 || s.Entries != 64 {
			t.Errorf("Stats() = %+v", s)
		}
	}
}

// Rules that stand under one header: the first of them decides, and when it goes the next one does.
func TestAskOfRulesThatAreAlike(t *testing.T) {
	h := api.Header{Dport: 80, Proto: 6}
	l := make([]api.Rule, 10)
	for i := range l {
		l[i] = with(20-i, dport(80, 89), proto(6, 255))
	}
	e := made(t, config())
	for i, r := range slices.Backward(l) {
		sameErr(t, "Insert", e.Insert(0, r), api.OK)
		has(t, "ahead of those that are alike", e, config(), l[i:], []api.Header{h})
	}
	for len(l) > 1 {
		gone := len(l) / 2
		if len(l)%2 == 0 {
			gone = 0
		}
		sameErr(t, "Delete", e.Delete(l[gone].Id), api.OK)
		l = less(l, gone)
		has(t, "one less", e, config(), l, []api.Header{h})
		if v, s := e.Ask(h); v.Id != l[0].Id || s.Rules < 1 || s.Rules > len(l) {
			t.Errorf("Ask = %+v, %+v of %v", v, s, l)
		}
	}
}

// Where there are tables, one at least has the rule that decides; where there are none, nothing is counted.
func TestAskCounts(t *testing.T) {
	e := made(t, config())
	if v, s := e.Ask(api.Header{}); v != (api.Verdict{Action: api.Deny}) || s != (api.Steps{}) {
		t.Errorf("no rules: %+v, %+v", v, s)
	}
	sameErr(t, "Insert", e.Insert(0, with(1, dport(80, 80))), api.OK)
	if v, s := e.Ask(api.Header{Dport: 80}); !v.Hit || s.Tables != 1 || s.Rules != 1 || s.Probes < 1 || s.Probes >= e.Stats().Slots {
		t.Errorf("one rule: %+v, %+v", v, s)
	}
	if v, s := e.Ask(api.Header{Dport: 81}); v.Hit || s.Tables > 1 || s.Rules > 1 {
		t.Errorf("one rule, no match: %+v, %+v", v, s)
	}
	sameErr(t, "Delete", e.Delete(1), api.OK)
	if v, s := e.Ask(api.Header{Dport: 80}); v.Hit || s != (api.Steps{}) {
		t.Errorf("no rule any more: %+v, %+v", v, s)
	}
}

// With the same rules once more it counts the same, whatever came and went meanwhile.
func TestAskCountsTheSameAgain(t *testing.T) {
	draw := drawer(38)
	for _, n := range []int{1, 3, 12, 40} {
		l := drawRules(draw, n)
		heads := near(draw, l, 150)
		e := made(t, roomy(), l...)
		want := tell(e, heads)
		for range 12 {
			place := draw(n + 1)
			other := l[draw(n)] // often of a tuple that is there
			other.Id, other.Dst = 900, drawPrefix(draw)
			sameErr(t, "Insert", e.Insert(place, other), api.OK)
			e.Ask(heads[0])
			sameErr(t, "Delete", e.Delete(900), api.OK)
			if !tell(e, heads).equal(want) {
				t.Fatal("other counts")
			}
		}
		sameErr(t, "Set", e.Set(largest()), api.OK)
		sameErr(t, "Set", e.Set(l), api.OK)
		if !tell(e, heads).equal(want) {
			t.Error("other counts behind Set")
		}
	}
}

func TestAskAsTheTableDoes(t *testing.T) {
	draw := drawer(25)
	c := roomy()
	for range 40 {
		l := drawRules(draw, draw(30))
		x, err := table.New(c)
		sameErr(t, "table.New", err, api.OK)
		sameErr(t, "table.Set", x.Set(l), api.OK)
		e := made(t, c)
		sameErr(t, "Set", e.Set(l), api.OK)
		for _, h := range near(draw, l, 100) {
			want, _ := x.Match(h)
			if v, _ := e.Ask(h); v != want {
				t.Fatalf("Ask(%+v) = %+v, wanted %+v", h, v, want)
			}
		}
	}
}

// P19.4

func TestStatsByHand(t *testing.T) {
	for _, c := range []struct {
		name            string
		l               []api.Rule
		tables, entries int // at most
	}{
		{"none", nil, 0, 0},
		{"one rule of all", []api.Rule{with(1)}, 1, 1},
		{"one of whole fields", []api.Rule{with(1, src(lastAddr, 32), dst(0, 32), sport(0, 0), dport(lastPort, lastPort), proto(255, 255))}, 1, 1},
		{"four stems", []api.Rule{with(1, dport(1, 6))}, 4, 4},
		{"the most stems", []api.Rule{with(1, sport(1, 65534), dport(1, 65534))}, 900, 900},
		{"two alike", []api.Rule{with(1, dport(1, 6)), with(2, dport(1, 6))}, 8, 8},
		{"64 alike", alike(64), 64, 64},
		{"64 apart, of one tuple", some(64), 64, 64},
		{"the largest", largest(), 57600, 57600},
	} {
		e := made(t, roomy())
		sameErr(t, "Set", e.Set(c.l), api.OK)
		s := e.Stats()
		if s.Tables > c.tables || s.Entries > c.entries || s.Entries < len(c.l) || s.Tables < min(1, len(c.l)) || s.Nodes != 0 || s.Slots < 2*min(1, len(c.l)) {
			t.Errorf("%s: Stats() = %+v", c.name, s)
		}
		bounded(t, c.name, e, c.l)
		sameErr(t, "Set of none", e.Set(nil), api.OK)
		if s := e.Stats(); s != (api.Stats{}) {
			t.Errorf("%s: Stats() = %+v of no rules any more", c.name, s)
		}
	}
}

// Whatever came and went, nothing of it is left.
func TestStatsBehindManyCalls(t *testing.T) {
	draw := drawer(26)
	e := made(t, sized(12, api.MaxBudget))
	var l []api.Rule
	for step := range 2000 {
		if id := 1 + draw(20); placeOf(l, id) >= 0 {
			sameErr(t, "Delete", e.Delete(id), api.OK)
			l = less(l, placeOf(l, id))
		} else if len(l) < 12 {
			r, place := drawRule(draw, id), draw(len(l)+1)
			sameErr(t, "Insert", e.Insert(place, r), api.OK)
			l = more(l, place, r)
		} else if draw(3) == 0 {
			l = drawRules(draw, draw(13))
			sameErr(t, "Set", e.Set(l), api.OK)
		}
		bounded(t, "step "+strconv.Itoa(step), e, l)
	}
	for _, r := range l {
		sameErr(t, "Delete", e.Delete(r.Id), api.OK)
	}
	if s := e.Stats(); s != (api.Stats{}) {
		t.Errorf("Stats() = %+v of no rules any more", s)
	}
}

func TestStatsDoNotHangOnWhatIsAsked(t *testing.T) {
	l := drawRules(drawer(11), 40)
	e := made(t, roomy(), l...)
	before := e.Stats()
	for _, h := range append(near(drawer(13), l, 300), fewHeaders()...) {
		e.Ask(h)
	}
	if s := e.Stats(); s != before {
		t.Errorf("Stats() = %+v, then %+v", before, s)
	}
}

// P19.5

// way is one in which an engine comes to have the rules of a list. What it calls is handed to done, which asks for OK.
type way struct {
	name string
	come func(e *tuple.Engine, l []api.Rule, done func(api.Errno))
}

// ways are several of these.
func ways(draw func(int) int) []way {
	return []way{
		{"by Set", func(e *tuple.Engine, l []api.Rule, done func(api.Errno)) {
			done(e.Set(l))
		}},
		{"by Set, of others first", func(e *tuple.Engine, l []api.Rule, done func(api.Errno)) {
			done(e.Set(alike(64)))
			done(e.Set(drawRules(draw, 30)))
			done(e.Set(l))
		}},
		{"by Insert, behind one another", func(e *tuple.Engine, l []api.Rule, done func(api.Errno)) {
			for i, r := range l {
				done(e.Insert(i, r))
			}
		}},
		{"by Insert, ahead of one another", func(e *tuple.Engine, l []api.Rule, done func(api.Errno)) {
			for _, r := range slices.Backward(l) {
				done(e.Insert(0, r))
			}
		}},
		{"by Insert, in any order", func(e *tuple.Engine, l []api.Rule, done func(api.Errno)) {
			var there []int // rising
			for _, i := range shuffled(draw, len(l)) {
				place, _ := slices.BinarySearch(there, i)
				done(e.Insert(place, l[i]))
				there = slices.Insert(there, place, i)
			}
		}},
		{"with rules that came and went", func(e *tuple.Engine, l []api.Rule, done func(api.Errno)) {
			for i, r := range l[:min(len(l), 63)] { // the last one of 64 has no room for another one
				done(e.Insert(draw(i+1), drawRule(draw, 900)))
				done(e.Delete(900))
				done(e.Insert(0, drawRule(draw, 901)))
				done(e.Insert(i+1, r))
				done(e.Delete(901))
			}
			for i := 63; i < len(l); i++ {
				done(e.Insert(i, l[i]))
			}
		}},
		{"each gone for a while", func(e *tuple.Engine, l []api.Rule, done func(api.Errno)) {
			done(e.Set(l))
			for i, r := range l {
				done(e.Delete(r.Id))
				done(e.Insert(i, r))
			}
		}},
		{"the other way round first", func(e *tuple.Engine, l []api.Rule, done func(api.Errno)) {
			for _, r := range l {
				done(e.Insert(0, r))
			}
			for i, r := range l {
				done(e.Delete(r.Id))
				done(e.Insert(i, r))
			}
		}},
	}
}

// shuffled are the numbers below n in any order.
func shuffled(draw func(int) int, n int) []int {
	order := make([]int, n)
	for i := range order {
		j := draw(i + 1)
		order[i] = order[j]
		order[j] = i
	}
	return order
}

func TestTheSameRulesAreAnsweredAlike(t *testing.T) {
	draw := drawer(27)
	for _, n := range []int{0, 1, 2, 5, 5, 12, 30, 64} {
		l := drawRules(draw, n)
		heads := append(near(draw, l, 150), fewHeaders()[:40]...)
		want := tell(made(t, roomy(), l...), heads)
		for _, w := range ways(draw) {
			e := made(t, roomy())
			w.come(e, l, func(err api.Errno) { sameErr(t, w.name, err, api.OK) })
			has(t, w.name, e, roomy(), l, heads)
			if !tell(e, heads).equal(want) {
				t.Errorf("%s: other answers", w.name)
			}
		}
	}
}

// Budgets and bounds, and what else the configuration says, are not seen in what is answered.
func TestOtherBudgetsAnswerAlike(t *testing.T) {
	draw := drawer(28)
	l := drawRules(draw, 20)
	heads := near(draw, l, 500)
	want := tell(made(t, roomy(), l...), heads)
	for i := range 5 {
		c := sized(20+i, sizeOf(t, l)+i)
		c.Prune, c.Grid, c.Binth, c.Depth = i, i*i, 1+i, 2*i
		if !tell(made(t, c, l...), heads).equal(want) {
			t.Errorf("other answers with %+v", c)
		}
	}
}

// T1, T2: an engine, a table that is called alike, and the list that both are to have, modelled by lists that are made anew.

type walker struct {
	t     *testing.T
	e     *tuple.Engine
	x     *table.Table
	c     api.Config
	l     []api.Rule
	rooms int // how often there was no room
}

// done holds what a call answered against the table's answer of it, and against the size of the rules as they would be.
func (w *walker) done(what string, got, want api.Errno, next func() []api.Rule) {
	w.t.Helper()
	if want != api.OK {
		sameErr(w.t, what, got, want)
		return
	}
	l := next()
	if sizeOf(w.t, l) > w.c.Tuple {
		sameErr(w.t, what, got, api.ErrTupleRoom)
		sameErr(w.t, "the table's way back", w.x.Set(w.l), api.OK)
		w.rooms++
		return
	}
	sameErr(w.t, what, got, api.OK)
	w.l = l
}

func (w *walker) insert(place int, r api.Rule) {
	w.done("Insert", w.e.Insert(place, r), w.x.Insert(place, r), func() []api.Rule { return more(w.l, place, r) })
}

func (w *walker) delete(id int) {
	w.done("Delete", w.e.Delete(id), w.x.Delete(id), func() []api.Rule { return less(w.l, placeOf(w.l, id)) })
}

func (w *walker) set(l []api.Rule) {
	w.done("Set", w.e.Set(l), w.x.Set(l), func() []api.Rule { return slices.Clone(l) })
}

func TestWalk(t *testing.T) {
	draw := drawer(29)
	for _, c := range []api.Config{sized(1, 1), sized(2, 8), sized(5, 20), sized(12, 60), sized(12, 100000), sized(64, 300), sized(64, api.MaxBudget)} {
		x, _ := table.New(c)
		w := &walker{t: t, e: made(t, c), x: x, c: c}
		for step := range 500 {
			id, place := 1+draw(c.Max+c.Max/2+1), draw(len(w.l)+3)-1
			switch draw(9) {
			case 0, 1, 2, 3, 4:
				r := drawRule(draw, id)
				if draw(10) == 0 {
					r.Action = 5
				}
				w.insert(place, r)
			case 5, 6, 7:
				w.delete(id)
			case 8:
				w.set(drawRules(draw, draw(c.Max+3)))
			}
			if !slices.Equal(w.l, x.Rules()) {
				t.Fatalf("step %d: %v, the table has %v", step, w.l, x.Rules())
			}
			has(t, "step "+strconv.Itoa(step), w.e, c, w.l, near(draw, w.l, 12))
			if t.Failed() {
				return
			}
		}
		if c.Tuple < 1000 && w.rooms < 10 {
			t.Errorf("only %d times no room, with %+v", w.rooms, c)
		}
	}
}

// R2

func TestListsThatAreHandedInStayAndAreNotKept(t *testing.T) {
	room := drawRules(drawer(30), 20)
	l, want := room[:12], slices.Clone(room)
	e := made(t, roomy())
	sameErr(t, "Set", e.Set(l), api.OK)
	sameErr(t, "Insert", e.Insert(12, every(500, api.Log)), api.OK)
	sameErr(t, "Delete", e.Delete(l[0].Id), api.OK)
	if !slices.Equal(room, want) {
		t.Error("the list was written into")
	}
	now := append(slices.Clone(l[1:]), every(500, api.Log))
	clear(room)
	has(t, "behind another list", e, roomy(), now, near(drawer(31), now, 300))
	refusedList := slices.Clone(want[:15])
	sameErr(t, "Set", made(t, sized(64, 14)).Set(refusedList), api.ErrTupleRoom)
	if !slices.Equal(refusedList, want[:15]) {
		t.Error("the list that was refused was written into")
	}
}

func TestEnginesKnowNothingOfOneAnother(t *testing.T) {
	c := roomy()
	l := drawRules(drawer(35), 12)
	heads := near(drawer(36), l, 300)
	x, y := made(t, c, l...), made(t, c)
	sameErr(t, "Set", y.Set(l), api.OK)
	sameErr(t, "Delete", y.Delete(l[2].Id), api.OK)
	sameErr(t, "Insert", y.Insert(0, with(500, dport(0, 80))), api.OK)
	has(t, "one", x, c, l, heads)
	has(t, "the other", y, c, more(less(l, 2), 0, with(500, dport(0, 80))), heads)
	sameErr(t, "Set", x.Set(nil), api.OK)
	has(t, "one without rules", x, c, nil, heads)
	has(t, "the other", y, c, more(less(l, 2), 0, with(500, dport(0, 80))), heads)
}

// Asking writes nothing, so that several may ask at once.
func TestAskFromSeveralSides(t *testing.T) {
	l := drawRules(drawer(32), 30)
	heads := near(drawer(33), l, 200)
	e := made(t, roomy(), l...)
	want := tell(e, heads)
	got := make(chan told)
	for range 8 {
		go func() { got <- tell(e, heads) }()
	}
	for range 8 {
		if !(<-got).equal(want) {
			t.Error("other answers")
		}
	}
}

// R3

func TestNilEngine(t *testing.T) {
	var e *tuple.Engine
	for _, r := range []api.Rule{every(1, api.Log), {}} {
		for _, place := range append([]int{0, 1}, farPlaces...) {
			sameErr(t, "Insert", e.Insert(place, r), api.ErrNil)
		}
	}
	for _, id := range []int{0, 1, -1, 1000000} {
		sameErr(t, "Delete", e.Delete(id), api.ErrNil)
	}
	for _, l := range [][]api.Rule{nil, {}, some(3), some(65), {{}}, alike(2)[1:], {every(1, api.Log), every(1, api.Log)}} {
		sameErr(t, "Set", e.Set(l), api.ErrNil)
	}
	for _, h := range fewHeaders() {
		if v, s := e.Ask(h); v != (api.Verdict{}) || s != (api.Steps{}) {
			t.Errorf("Ask(%+v) = %+v, %+v", h, v, s)
		}
	}
	if s := e.Stats(); s != (api.Stats{}) {
		t.Errorf("Stats() = %+v", s)
	}
}

// An engine that New did not make has no table; no call panics on it.
func TestAnEngineThatNewDidNotMake(t *testing.T) {
	e := &tuple.Engine{}
	sameErr(t, "Insert", e.Insert(0, every(1, api.Log)), api.ErrNil)
	sameErr(t, "Delete", e.Delete(1), api.ErrNil)
	sameErr(t, "Set", e.Set(some(2)), api.ErrNil)
	if v, s := e.Ask(api.Header{}); v.Hit || s.Rules != 0 || e.Stats().Entries != 0 {
		t.Errorf("Ask = %+v, %+v; Stats() = %+v", v, s, e.Stats())
	}
}

// An engine gives out no call by which its rules could change beside its tables.
func TestAnEngineGivesOutItsOwnCallsAlone(t *testing.T) {
	var names []string
	for m := range reflect.TypeFor[*tuple.Engine]().Methods() {
		names = append(names, m.Name)
	}
	if want := []string{"Ask", "Delete", "Insert", "Set", "Stats"}; !slices.Equal(names, want) {
		t.Errorf("calls: %v, wanted %v", names, want)
	}
}

// The chapter's table of examples, row by row.
func TestExamples(t *testing.T) {
	a, b := every(1, api.Permit), every(2, api.Log)
	a.Src = api.Prefix{Addr: addr(10, 0, 0, 0), Len: 8}
	b.Dst = api.Prefix{Addr: addr(10, 0, 0, 0), Len: 8}
	e := made(t, config())
	sameErr(t, "Insert(0, A)", e.Insert(0, a), api.OK)
	sameErr(t, "Insert(1, B)", e.Insert(1, b), api.OK)
	sameErr(t, "Insert(0, A)", e.Insert(0, a), api.ErrTableTwice)

	first := api.Header{Src: addr(10, 1, 1, 1), Dst: addr(10, 2, 2, 2)}
	for _, q := range []struct {
		h    api.Header
		want api.Verdict
	}{
		{first, api.Verdict{Hit: true, Id: 1, Action: api.Permit}},
		{api.Header{Src: addr(9, 9, 9, 9), Dst: addr(10, 2, 2, 2)}, api.Verdict{Hit: true, Id: 2, Action: api.Log}},
		{api.Header{Src: addr(9, 9, 9, 9), Dst: addr(9, 9, 9, 9)}, api.Verdict{Action: api.Deny}},
	} {
		if v, _ := e.Ask(q.h); v != q.want {
			t.Errorf("Ask(%+v) = %+v, wanted %+v", q.h, v, q.want)
		}
	}

	third := every(3, api.Queue)
	third.Dport = api.Span{Lo: 1, Hi: 6}
	c := config()
	c.Tuple = 5
	x := made(t, c, a, b)
	sameErr(t, "Insert(2, C) with Tuple 5", x.Insert(2, third), api.ErrTupleRoom)
	if s := x.Stats(); s.Entries != 2 {
		t.Errorf("Stats() = %+v behind what was refused", s)
	}
	c.Tuple = 6
	sameErr(t, "Insert(2, C) with Tuple 6", made(t, c, a, b).Insert(2, third), api.OK)

	sameErr(t, "Delete(1)", e.Delete(1), api.OK)
	if v, _ := e.Ask(first); v != (api.Verdict{Hit: true, Id: 2, Action: api.Log}) {
		t.Errorf("Ask behind Delete = %+v", v)
	}
}
