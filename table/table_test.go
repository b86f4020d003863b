package table_test

import (
	"iter"
	"math"
	"slices"
	"strconv"
	"testing"

	"quintet/api"
	"quintet/table"
)

// every is the rule of all headers, written out.
func every(id int, a api.Action) api.Rule {
	return api.Rule{
		Id: id, Src: api.Prefix{Addr: 0, Len: 0}, Dst: api.Prefix{Addr: 0, Len: 0},
		Sport: api.Span{Lo: 0, Hi: 65535}, Dport: api.Span{Lo: 0, Hi: 65535},
		Proto: api.Mask{Value: 0, Care: 0}, Action: a,
	}
}

// config is the one of the chapter's examples, with another Max.
func config(most int) api.Config {
	return api.Config{Max: most, Default: api.Deny, Prune: 1000, Grid: 1000, Tuple: 1000, Binth: 4, Depth: 8}
}

// made is a table with these rules, put behind one another by Insert.
func made(t *testing.T, c api.Config, rules ...api.Rule) *table.Table {
	t.Helper()
	x, err := table.New(c)
	if err != api.OK || x == nil {
		t.Fatalf("New(%+v): %v, %d", c, x, err)
	}
	for i, r := range rules {
		if err := x.Insert(i, r); err != api.OK {
			t.Fatalf("Insert(%d, %+v): %d", i, r, err)
		}
	}
	return x
}

// some are n rules that may be, no two alike: the Ids from 1 on.
func some(n int) []api.Rule {
	list := make([]api.Rule, n)
	for i := range list {
		list[i] = every(i+1, api.Action(1+i%4))
		list[i].Src = api.Prefix{Addr: uint32(i) << 24, Len: 8}
	}
	return list
}

// wrongRule is a rule that may not be, and why.
type wrongRule struct {
	rule api.Rule
	err  api.Errno
}

// wrongRules are rules with this Id that may not be for each of their other fields, and some for the Id.
func wrongRules(id int) []wrongRule {
	change := func(err api.Errno, write func(*api.Rule)) wrongRule {
		r := every(id, api.Permit)
		write(&r)
		return wrongRule{r, err}
	}
	return []wrongRule{
		change(api.ErrRuleId, func(r *api.Rule) { r.Id = 0 }),
		change(api.ErrRuleId, func(r *api.Rule) { r.Id = -1 }),
		change(api.ErrRuleId, func(r *api.Rule) { r.Id = 1000000 }),
		change(api.ErrRuleId, func(r *api.Rule) { *r = api.Rule{} }),
		change(api.ErrPrefixLen, func(r *api.Rule) { r.Src.Len = 33 }),
		change(api.ErrPrefixBits, func(r *api.Rule) { r.Dst.Addr = 1 }),
		change(api.ErrSpanEnds, func(r *api.Rule) { r.Sport = api.Span{Lo: 2, Hi: 1} }),
		change(api.ErrSpanEnds, func(r *api.Rule) { r.Dport = api.Span{Lo: 65535, Hi: 0} }),
		change(api.ErrMaskBits, func(r *api.Rule) { r.Proto = api.Mask{Value: 2, Care: 1} }),
		change(api.ErrRuleAction, func(r *api.Rule) { r.Action = 0 }),
		change(api.ErrRuleAction, func(r *api.Rule) { r.Action = 5 }),
	}
}

// farPlaces are numbers that are no place of any table.
var farPlaces = []int{-1, -2, 65, 1000000, math.MinInt, math.MinInt32, math.MaxInt32, math.MaxInt}

// fewHeaders are all headers that have an edge, or a number amid them, in each field.
func fewHeaders() []api.Header {
	var list []api.Header
	for _, src := range []uint32{0, 0x0a000001, 0x0bffffff, math.MaxUint32} {
		for _, dst := range []uint32{0, 0xc0a80001, math.MaxUint32} {
			for _, sport := range []uint16{0, 80, 65535} {
				for _, dport := range []uint16{0, 80, 443, 65535} {
					for _, proto := range []uint8{0, 6, 17, 255} {
						list = append(list, api.Header{Src: src, Dst: dst, Sport: sport, Dport: dport, Proto: proto})
					}
				}
			}
		}
	}
	return list
}

// begins says by division whether an address is in a prefix that may be.
func begins(p api.Prefix, addr uint32) bool {
	n := uint64(1) << (32 - p.Len)
	return uint64(p.Addr)/n == uint64(addr)/n
}

// matches is DOC.md's word, of a rule that may be.
func matches(r api.Rule, h api.Header) bool {
	return begins(r.Src, h.Src) && begins(r.Dst, h.Dst) &&
		r.Sport.Lo <= h.Sport && h.Sport <= r.Sport.Hi && r.Dport.Lo <= h.Dport && h.Dport <= r.Dport.Hi &&
		(h.Proto^r.Proto.Value)&r.Proto.Care == 0
}

// decides is the model's Match: the last rule is asked first, so that an earlier one writes over it.
func decides(l []api.Rule, other api.Action, h api.Header) (api.Verdict, int) {
	v, at := api.Verdict{Action: other}, -1
	for i := len(l) - 1; i >= 0; i-- {
		if matches(l[i], h) {
			v, at = api.Verdict{Hit: true, Id: l[i].Id, Action: l[i].Action}, i
		}
	}
	return v, at
}

// less is the model's Delete: a new list without the rule of that place.
func less(l []api.Rule, place int) []api.Rule {
	var list []api.Rule
	for i, r := range l {
		if i != place {
			list = append(list, r)
		}
	}
	return list
}

// more is the model's Insert: a new list with the rule at that place.
func more(l []api.Rule, place int, r api.Rule) []api.Rule {
	var list []api.Rule
	for i := range len(l) + 1 {
		switch {
		case i < place:
			list = append(list, l[i])
		case i == place:
			list = append(list, r)
		default:
			list = append(list, l[i-1])
		}
	}
	return list
}

// pairs are what an iterator gives, gone through once.
func pairs(all iter.Seq2[int, api.Rule]) (places []int, rules []api.Rule) {
	for place, r := range all {
		places, rules = append(places, place), append(rules, r)
	}
	return places, rules
}

// holds asks the table, by all calls that tell of its rules, whether it has just these.
func holds(t *testing.T, what string, x *table.Table, want []api.Rule) {
	t.Helper()
	if got := x.Rules(); !slices.Equal(got, want) {
		t.Errorf("%s: Rules() = %v, wanted %v", what, got, want)
		return
	}
	places, rules := pairs(x.All())
	if !slices.Equal(rules, want) {
		t.Errorf("%s: All() gives %v, wanted %v", what, rules, want)
	}
	for i, r := range want {
		if i >= len(places) || places[i] != i {
			t.Errorf("%s: All() gives the places %v", what, places)
			break
		}
		if got, err := x.At(i); got != r || err != api.OK {
			t.Errorf("%s: At(%d) = %+v, %d, wanted %+v", what, i, got, err, r)
		}
		if got := x.Find(r.Id); got != i {
			t.Errorf("%s: Find(%d) = %d, wanted %d", what, r.Id, got, i)
		}
	}
	for _, place := range append([]int{len(want)}, farPlaces...) {
		if got, err := x.At(place); got != (api.Rule{}) || err != api.ErrTablePlace {
			t.Errorf("%s: At(%d) = %+v, %d, wanted noughts, %d", what, place, got, err, api.ErrTablePlace)
		}
	}
}

// answers asks the table of headers, and holds that against the model.
func answers(t *testing.T, what string, x *table.Table, l []api.Rule, other api.Action, heads []api.Header) {
	t.Helper()
	for _, h := range heads {
		v, at := x.Match(h)
		if wantV, wantAt := decides(l, other, h); v != wantV || at != wantAt {
			t.Fatalf("%s: Match(%+v) = %+v, %d, wanted %+v, %d", what, h, v, at, wantV, wantAt)
		}
	}
}

// sameErr holds an error's number against the one that is asked for.
func sameErr(t *testing.T, what string, got, want api.Errno) {
	t.Helper()
	if got != want {
		t.Errorf("%s: %d, wanted %d", what, got, want)
	}
}

// drawer gives numbers by a rule that goes all about, the same each time.
func drawer(state uint64) func(n int) int {
	return func(n int) int {
		state = state*6364136223846793005 + 1442695040888963407
		return int(state >> 33 % uint64(n))
	}
}

// configEdge is a configuration with one field changed, and what Check is to say of it.
type configEdge struct {
	name   string
	config api.Config
	want   api.Errno
}

// configEdges are all edges that P11.1 names, and numbers far out, each in one field alone.
func configEdges() []configEdge {
	fields := []struct {
		name        string
		write       func(c *api.Config, n int)
		good, wrong []int
	}{
		{"Max", func(c *api.Config, n int) { c.Max = n }, []int{1, 2, 63, 64}, []int{0, -1, 65}},
		{"Default", func(c *api.Config, n int) { c.Default = api.Action(n) }, []int{1, 2, 3, 4}, []int{0, -1, 5}},
		{"Prune", func(c *api.Config, n int) { c.Prune = n }, []int{0, 1, 1048575, 1048576}, []int{-1, 1048577}},
		{"Grid", func(c *api.Config, n int) { c.Grid = n }, []int{0, 1, 1048575, 1048576}, []int{-1, 1048577}},
		{"Tuple", func(c *api.Config, n int) { c.Tuple = n }, []int{0, 1, 1048575, 1048576}, []int{-1, 1048577}},
		{"Binth", func(c *api.Config, n int) { c.Binth = n }, []int{1, 2, 15, 16}, []int{0, -1, 17}},
		{"Depth", func(c *api.Config, n int) { c.Depth = n }, []int{0, 1, 9, 10}, []int{-1, 11}},
	}
	var list []configEdge
	for _, f := range fields {
		add := func(n int, want api.Errno) {
			c := config(10)
			f.write(&c, n)
			list = append(list, configEdge{f.name + " " + strconv.Itoa(n), c, want})
		}
		for _, n := range f.good {
			add(n, api.OK)
		}
		for _, n := range append(f.wrong, math.MinInt, math.MinInt32, math.MaxInt32, math.MaxInt) {
			add(n, api.ErrTableConfig)
		}
	}
	return list
}

// P11.1

func TestCheckAndNewAtEachEdge(t *testing.T) {
	for _, e := range configEdges() {
		sameErr(t, "Check with "+e.name, table.Check(e.config), e.want)
		x, err := table.New(e.config)
		sameErr(t, "New with "+e.name, err, e.want)
		if (x == nil) != (e.want != api.OK) {
			t.Errorf("New with %s: the table %v beside %d", e.name, x, err)
		}
		if e.want == api.OK {
			holds(t, "New with "+e.name, x, nil)
		}
	}
}

func TestCheckOfAllFieldsAtTheirEdges(t *testing.T) {
	low := api.Config{Max: 1, Default: api.Deny, Binth: 1}
	high := api.Config{Max: 64, Default: api.Queue, Prune: 1048576, Grid: 1048576, Tuple: 1048576, Binth: 16, Depth: 10}
	sameErr(t, "Check of the least", table.Check(low), api.OK)
	sameErr(t, "Check of the greatest", table.Check(high), api.OK)
	sameErr(t, "Check of noughts", table.Check(api.Config{}), api.ErrTableConfig)
}

func TestATableAsksMaxAndDefaultAlone(t *testing.T) {
	rules := some(64)
	for _, c := range []api.Config{
		{Max: 64, Default: api.Log, Binth: 1},
		{Max: 64, Default: api.Log, Prune: 1048576, Grid: 1048576, Tuple: 1048576, Binth: 16, Depth: 10},
	} {
		x := made(t, c, rules...)
		holds(t, "64 rules", x, rules)
		answers(t, "64 rules", x, rules, api.Log, fewHeaders())
		sameErr(t, "Set", x.Set(rules), api.OK)
	}
}

// P11.2

func TestInsertAtEveryPlace(t *testing.T) {
	for _, n := range []int{0, 1, 2, 3, 7, 63} {
		for place := range n + 1 {
			x := made(t, config(n+1), some(n)...)
			r := every(500, api.Queue)
			sameErr(t, "Insert", x.Insert(place, r), api.OK)
			holds(t, "behind Insert at "+strconv.Itoa(place), x, more(some(n), place, r))
		}
	}
}

func TestInsertAtNoPlace(t *testing.T) {
	for _, n := range []int{0, 1, 2, 63} {
		x := made(t, config(64), some(n)...)
		for _, place := range append([]int{n + 1, n + 2}, farPlaces...) {
			sameErr(t, "Insert at "+strconv.Itoa(place), x.Insert(place, every(500, api.Log)), api.ErrTablePlace)
		}
		holds(t, "behind what was refused", x, some(n))
	}
}

func TestInsertIntoAFullTable(t *testing.T) {
	for _, most := range []int{1, 2, 5, 63, 64} {
		rules := some(most)
		x := made(t, config(most), rules...)
		for place := range most + 1 {
			sameErr(t, "Insert into a full table", x.Insert(place, every(500, api.Log)), api.ErrTableFull)
		}
		holds(t, "a full table", x, rules)
		sameErr(t, "Delete", x.Delete(rules[0].Id), api.OK)
		sameErr(t, "Insert where one is gone", x.Insert(0, every(500, api.Log)), api.OK)
		sameErr(t, "Insert into a full table", x.Insert(0, every(501, api.Log)), api.ErrTableFull)
	}
}

func TestInsertOfTheLastId(t *testing.T) {
	x := made(t, config(64))
	sameErr(t, "Insert of 999999", x.Insert(0, every(999999, api.Log)), api.OK)
	sameErr(t, "Insert of 1", x.Insert(0, every(1, api.Log)), api.OK)
	sameErr(t, "Insert of 999999", x.Insert(0, every(999999, api.Log)), api.ErrTableTwice)
	holds(t, "two rules", x, []api.Rule{every(1, api.Log), every(999999, api.Log)})
}

func TestInsertTellsTheFirstError(t *testing.T) {
	const n = 3
	for _, most := range []int{n, n + 1} { // full, and with room
		x := made(t, config(most), some(n)...)
		for id := 1; id <= n+1; id++ { // three that are there, and one more
			for _, place := range []int{-1, 0, n, n + 1} {
				for _, w := range wrongRules(id) {
					sameErr(t, "Insert of a rule that may not be", x.Insert(place, w.rule), w.err)
				}
				if id <= n {
					sameErr(t, "Insert of an Id that is there", x.Insert(place, every(id, api.Log)), api.ErrTableTwice)
				}
			}
		}
		sameErr(t, "Insert at -1", x.Insert(-1, every(500, api.Log)), api.ErrTablePlace)
		sameErr(t, "Insert one too far", x.Insert(n+1, every(500, api.Log)), api.ErrTablePlace)
		holds(t, "behind what was refused", x, some(n))
	}
}

func TestAnIdIsThereHoweverItsRuleLooks(t *testing.T) {
	x := made(t, config(64), some(3)...)
	for id := 1; id <= 3; id++ {
		for _, r := range []api.Rule{some(3)[id-1], every(id, api.Queue)} {
			sameErr(t, "Insert", x.Insert(0, r), api.ErrTableTwice)
		}
	}
	same := some(3)[1]
	same.Id = 4
	sameErr(t, "Insert of the same fields under another Id", x.Insert(0, same), api.OK)
}

func TestDeleteOfEachRule(t *testing.T) {
	for _, n := range []int{1, 2, 3, 8, 64} {
		for place, r := range some(n) {
			x := made(t, config(64), some(n)...)
			sameErr(t, "Delete", x.Delete(r.Id), api.OK)
			holds(t, "behind Delete of "+strconv.Itoa(r.Id), x, less(some(n), place))
			if got := x.Find(r.Id); got != -1 {
				t.Errorf("Find(%d) = %d behind Delete", r.Id, got)
			}
			sameErr(t, "Delete once more", x.Delete(r.Id), api.ErrTableNone)
		}
	}
}

func TestDeleteOfNone(t *testing.T) {
	for _, n := range []int{0, 1, 64} {
		x := made(t, config(64), some(n)...)
		for _, id := range []int{n + 1, 0, -1, 999999, 1000000, math.MinInt, math.MaxInt} {
			sameErr(t, "Delete of "+strconv.Itoa(id), x.Delete(id), api.ErrTableNone)
		}
		holds(t, "behind what was refused", x, some(n))
	}
}

func TestAnIdThatWasDeletedMayComeAgain(t *testing.T) {
	x := made(t, config(3), some(3)...)
	sameErr(t, "Delete", x.Delete(2), api.OK)
	sameErr(t, "Insert", x.Insert(0, every(2, api.Queue)), api.OK)
	holds(t, "behind both", x, []api.Rule{every(2, api.Queue), some(3)[0], some(3)[2]})
}

// P11.3

func TestMoveOfEachRuleToEachPlace(t *testing.T) {
	for _, n := range []int{1, 2, 3, 7, 64} {
		rules := some(n)
		for from, r := range rules {
			for place := range n {
				x := made(t, config(64), rules...)
				sameErr(t, "Move", x.Move(r.Id, place), api.OK)
				holds(t, "behind Move from "+strconv.Itoa(from)+" to "+strconv.Itoa(place), x, more(less(rules, from), place, r))
			}
		}
	}
}

func TestMoveInAFullTable(t *testing.T) {
	x := made(t, config(3), some(3)...)
	sameErr(t, "Move", x.Move(1, 2), api.OK)
	holds(t, "a full table", x, []api.Rule{some(3)[1], some(3)[2], some(3)[0]})
}

func TestMoveThatIsRefused(t *testing.T) {
	for _, n := range []int{0, 1, 2, 64} {
		x := made(t, config(64), some(n)...)
		for _, place := range append([]int{n, n + 1}, farPlaces...) {
			for id := 1; id <= n; id++ {
				sameErr(t, "Move to "+strconv.Itoa(place), x.Move(id, place), api.ErrTablePlace)
			}
		}
		for _, place := range append([]int{0, n - 1, n}, farPlaces...) {
			for _, id := range []int{n + 1, 0, -1, 1000000, math.MinInt, math.MaxInt} {
				sameErr(t, "Move of "+strconv.Itoa(id), x.Move(id, place), api.ErrTableNone)
			}
		}
		holds(t, "behind what was refused", x, some(n))
	}
}

func TestSetOfListsThatMayBe(t *testing.T) {
	for _, most := range []int{1, 2, 5, 64} {
		for _, before := range []int{0, 1, most} {
			for _, n := range []int{0, 1, most} {
				x := made(t, config(most), some(before)...)
				rules := some(n) // the Ids that the table has now, too
				slices.Reverse(rules)
				sameErr(t, "Set", x.Set(rules), api.OK)
				holds(t, "behind Set", x, rules)
			}
		}
	}
}

func TestSetOfTheEmptyList(t *testing.T) {
	for _, l := range [][]api.Rule{nil, {}, some(3)[:0]} {
		x := made(t, config(3), some(3)...)
		sameErr(t, "Set of nothing", x.Set(l), api.OK)
		holds(t, "behind Set of nothing", x, nil)
		answers(t, "behind Set of nothing", x, nil, api.Deny, fewHeaders())
		sameErr(t, "Insert", x.Insert(0, every(1, api.Log)), api.OK)
		holds(t, "behind Insert", x, []api.Rule{every(1, api.Log)})
	}
}

func TestSetOfTooMany(t *testing.T) {
	for _, most := range []int{1, 2, 5, 63, 64} {
		x := made(t, config(most), every(900, api.Queue))
		sameErr(t, "Set of Max and one", x.Set(some(most+1)), api.ErrTableFull)
		sameErr(t, "Set of very many", x.Set(some(200)), api.ErrTableFull)
		holds(t, "behind what was refused", x, []api.Rule{every(900, api.Queue)})
		sameErr(t, "Set of Max", x.Set(some(most)), api.OK)
		holds(t, "behind Set of Max", x, some(most))
	}
}

func TestSetOfOneThingWrong(t *testing.T) {
	const n = 5
	before := []api.Rule{every(900, api.Queue), every(901, api.Log)}
	for place := range n {
		x := made(t, config(n), before...)
		for _, w := range wrongRules(place + 1) {
			l := some(n)
			l[place] = w.rule
			sameErr(t, "Set with a rule that may not be at "+strconv.Itoa(place), x.Set(l), w.err)
		}
		for ahead := range place {
			l := some(n)
			l[place].Id = l[ahead].Id
			sameErr(t, "Set with an Id twice", x.Set(l), api.ErrTableTwice)
		}
		holds(t, "behind what was refused", x, before)
	}
}

func TestSetTellsTheFirstErrorFromTheFront(t *testing.T) {
	good, twin, bad, worse := every(1, api.Log), every(1, api.Permit), every(2, api.Log), every(0, api.Log)
	bad.Action = 9
	third, fourth := every(3, api.Log), every(4, api.Log)
	before := []api.Rule{every(900, api.Queue)}
	for _, c := range []struct {
		list []api.Rule
		want api.Errno
	}{
		{[]api.Rule{good, twin, bad}, api.ErrTableTwice},
		{[]api.Rule{good, bad, twin}, api.ErrRuleAction},
		{[]api.Rule{bad, good, twin}, api.ErrRuleAction},
		{[]api.Rule{bad, worse}, api.ErrRuleAction},
		{[]api.Rule{worse, bad}, api.ErrRuleId},
		{[]api.Rule{good, third, bad}, api.ErrRuleAction},         // one too many, which may not be
		{[]api.Rule{good, third, twin}, api.ErrTableTwice},        // one too many, whose Id is there
		{[]api.Rule{good, third, fourth}, api.ErrTableFull},       // one too many, without fault
		{[]api.Rule{good, third, fourth, bad}, api.ErrTableFull},  // what is wrong stands behind
		{[]api.Rule{good, third, fourth, twin}, api.ErrTableFull}, // what is twice stands behind
		{[]api.Rule{good, twin, third, fourth, bad}, api.ErrTableTwice},
		{[]api.Rule{good, bad, third, fourth, twin}, api.ErrRuleAction},
	} {
		x := made(t, config(2), before...)
		sameErr(t, "Set", x.Set(c.list), c.want)
		holds(t, "behind what was refused", x, before)
		answers(t, "behind what was refused", x, before, api.Deny, fewHeaders())
	}
}

func TestSetOfARuleThatMayNotBeAndIsTwice(t *testing.T) {
	x := made(t, config(2))
	for _, w := range wrongRules(1)[4:] { // those whose Id may be
		sameErr(t, "Set", x.Set([]api.Rule{every(1, api.Log), w.rule}), w.err)
	}
}

func TestSetOfAVeryLongList(t *testing.T) {
	x := made(t, config(64), some(2)...)
	long := some(64)
	for len(long) < 1<<20 {
		long = append(long, every(1+len(long), api.Deny))
	}
	sameErr(t, "Set of 2^20 rules", x.Set(long), api.ErrTableFull)
	holds(t, "behind what was refused", x, some(2))
}

// P11.4

func TestFindOfNone(t *testing.T) {
	for _, n := range []int{0, 1, 64} {
		x := made(t, config(64), some(n)...)
		for _, id := range []int{n + 1, 0, -1, 999999, 1000000, math.MinInt, math.MaxInt} {
			if got := x.Find(id); got != -1 {
				t.Errorf("Find(%d) of %d rules = %d, wanted -1", id, n, got)
			}
		}
	}
}

func TestWhatEmptyAndFullTablesTell(t *testing.T) {
	for _, most := range []int{1, 64} {
		holds(t, "an empty table", made(t, config(most)), nil)
		holds(t, "a full table", made(t, config(most), some(most)...), some(most))
	}
}

func TestAllLeftEarly(t *testing.T) {
	rules := some(5)
	x := made(t, config(64), rules...)
	all := x.All()
	for left := range rules {
		given := 0
		for place, r := range all {
			if place != given || r != rules[given] {
				t.Fatalf("All() gives %d, %+v, wanted %d, %+v", place, r, given, rules[given])
			}
			given++
			if place == left {
				break
			}
		}
		if given != left+1 {
			t.Errorf("All() left behind %d gave %d", left+1, given)
		}
	}
}

func TestAllCallsNoMoreOnceItIsLeft(t *testing.T) {
	calls := 0
	made(t, config(64), some(5)...).All()(func(int, api.Rule) bool {
		calls++
		return calls < 3
	})
	if calls != 3 {
		t.Errorf("All() called %d times, wanted 3", calls)
	}
}

func TestAllMoreThanOnceAndWithinItself(t *testing.T) {
	rules := some(4)
	x := made(t, config(64), rules...)
	all := x.All()
	for range 3 {
		if _, got := pairs(all); !slices.Equal(got, rules) {
			t.Fatalf("All() gone through again gives %v", got)
		}
	}
	outer := 0
	for place, r := range all {
		if place != outer || r != rules[outer] {
			t.Errorf("All() gives %d, %+v at %d", place, r, outer)
		}
		places, inner := pairs(all)
		if !slices.Equal(inner, rules) || !slices.Equal(places, []int{0, 1, 2, 3}) {
			t.Errorf("All() within itself gives %v, %v", places, inner)
		}
		outer++
	}
	if outer != len(rules) {
		t.Errorf("All() gave %d around itself", outer)
	}
}

func TestAllWhileTheTableChanges(t *testing.T) {
	for _, change := range []func(x *table.Table){
		func(x *table.Table) { x.Delete(x.Rules()[0].Id) },
		func(x *table.Table) { x.Set(nil) },
		func(x *table.Table) { x.Insert(0, every(700+len(x.Rules()), api.Log)) },
		func(x *table.Table) { x.Move(2, 0) },
	} {
		x := made(t, config(64), some(6)...)
		given := 0
		for range x.All() { // what it gives is not promised, but that it ends
			if len(x.Rules()) > 0 {
				change(x)
			}
			given++
		}
		if given > 64 {
			t.Errorf("All() gave %d", given)
		}
	}
}

// P11.5

func TestMatchWhereTheFirstOfSeveralDecides(t *testing.T) {
	wide, narrow, one := every(1, api.Permit), every(2, api.Log), every(3, api.Queue)
	narrow.Src = api.Prefix{Addr: 0x0a000000, Len: 8}
	one.Src, one.Dport, one.Proto = api.Prefix{Addr: 0x0a000001, Len: 32}, api.Span{Lo: 80, Hi: 80}, api.Mask{Value: 6, Care: 255}
	head := api.Header{Src: 0x0a000001, Dst: 7, Sport: 9, Dport: 80, Proto: 6}
	lists := [][]api.Rule{
		{wide, narrow, one}, {wide, one, narrow}, {narrow, wide, one},
		{narrow, one, wide}, {one, wide, narrow}, {one, narrow, wide},
	}
	for _, l := range lists {
		x := made(t, config(3), l...)
		v, at := x.Match(head)
		if want := (api.Verdict{Hit: true, Id: l[0].Id, Action: l[0].Action}); v != want || at != 0 {
			t.Errorf("Match = %+v, %d, wanted %+v, 0", v, at, want)
		}
		answers(t, "three rules", x, l, api.Deny, fewHeaders())
	}
}

func TestMatchWhereNoneDoes(t *testing.T) {
	r := every(5, api.Permit)
	r.Dport = api.Span{Lo: 80, Hi: 81}
	for _, other := range []api.Action{api.Deny, api.Permit, api.Log, api.Queue} {
		c := config(3)
		c.Default = other
		for _, l := range [][]api.Rule{nil, {r}} {
			v, at := made(t, c, l...).Match(api.Header{Dport: 82})
			if want := (api.Verdict{Action: other}); v != want || at != -1 {
				t.Errorf("Match = %+v, %d, wanted %+v, -1", v, at, want)
			}
		}
		v, at := made(t, c, r).Match(api.Header{Dport: 81})
		if want := (api.Verdict{Hit: true, Id: 5, Action: api.Permit}); v != want || at != 0 {
			t.Errorf("Match = %+v, %d, wanted %+v, 0", v, at, want)
		}
	}
}

func TestMatchAtEachPlaceOfAFullTable(t *testing.T) {
	rules := some(64)
	x := made(t, config(64), rules...)
	for i, r := range rules {
		v, at := x.Match(api.Header{Src: uint32(i)<<24 + 5, Dst: 1, Sport: 2, Dport: 3, Proto: 4})
		if want := (api.Verdict{Hit: true, Id: r.Id, Action: r.Action}); v != want || at != i {
			t.Errorf("Match = %+v, %d, wanted %+v, %d", v, at, want, i)
		}
	}
	if v, at := x.Match(api.Header{Src: 64 << 24}); v != (api.Verdict{Action: api.Deny}) || at != -1 {
		t.Errorf("Match of none = %+v, %d", v, at)
	}
}

// P11.6

func TestCloneHasTheSame(t *testing.T) {
	for _, n := range []int{0, 1, 2, 64} {
		for _, other := range []api.Action{api.Deny, api.Queue} {
			c := config(64)
			c.Default = other
			x := made(t, c, some(n)...)
			twin := x.Clone()
			if twin == nil || twin == x {
				t.Fatal("Clone() is no other table")
			}
			holds(t, "the clone", twin, some(n))
			answers(t, "the clone", twin, some(n), other, fewHeaders())
		}
	}
}

func TestCloneHasTheSameMax(t *testing.T) {
	for _, most := range []int{1, 2, 64} {
		twin := made(t, config(most), some(most-1)...).Clone()
		sameErr(t, "Insert", twin.Insert(0, every(500, api.Log)), api.OK)
		sameErr(t, "Insert into a full clone", twin.Insert(0, every(501, api.Log)), api.ErrTableFull)
		sameErr(t, "Set of Max and one", twin.Set(some(most+1)), api.ErrTableFull)
	}
}

func TestCloneAndWhatWasClonedKnowNothingOfOneAnother(t *testing.T) {
	for i, change := range []func(x *table.Table) api.Errno{
		func(x *table.Table) api.Errno { return x.Insert(0, every(500, api.Queue)) },
		func(x *table.Table) api.Errno { return x.Insert(4, every(500, api.Queue)) },
		func(x *table.Table) api.Errno { return x.Delete(1) },
		func(x *table.Table) api.Errno { return x.Move(1, 3) },
		func(x *table.Table) api.Errno { return x.Move(4, 0) },
		func(x *table.Table) api.Errno { return x.Set([]api.Rule{every(500, api.Queue)}) },
		func(x *table.Table) api.Errno { return x.Set(nil) },
	} {
		what := "change " + strconv.Itoa(i)
		x := made(t, config(6), some(4)...)
		twin := x.Clone()
		sameErr(t, what, change(x), api.OK)
		holds(t, what+": the clone", twin, some(4))
		x = made(t, config(6), some(4)...)
		twin = x.Clone()
		sameErr(t, what, change(twin), api.OK)
		holds(t, what+": what was cloned", x, some(4))
		sameErr(t, what, change(x), api.OK)
		holds(t, what+": both", x, twin.Rules())
	}
}

func TestBothGrowApart(t *testing.T) {
	x := made(t, config(64), some(3)...)
	twin := x.Clone()
	sameErr(t, "Insert", x.Insert(3, every(500, api.Log)), api.OK)
	sameErr(t, "Insert", twin.Insert(3, every(600, api.Deny)), api.OK)
	holds(t, "what was cloned", x, append(some(3), every(500, api.Log)))
	holds(t, "the clone", twin, append(some(3), every(600, api.Deny)))
}

// R3

func TestNilTable(t *testing.T) {
	var x *table.Table
	for _, n := range []int{-1, 0, 1, math.MinInt, math.MaxInt} {
		sameErr(t, "Insert", x.Insert(n, every(1, api.Log)), api.ErrNil)
		sameErr(t, "Insert of what may not be", x.Insert(n, api.Rule{}), api.ErrNil)
		sameErr(t, "Delete", x.Delete(n), api.ErrNil)
		sameErr(t, "Move", x.Move(n, n), api.ErrNil)
		if got := x.Find(n); got != -1 {
			t.Errorf("Find(%d) = %d, wanted -1", n, got)
		}
		if r, err := x.At(n); r != (api.Rule{}) || err != api.ErrNil {
			t.Errorf("At(%d) = %+v, %d", n, r, err)
		}
	}
	for _, l := range [][]api.Rule{nil, {}, some(1), some(65), {{}}} {
		sameErr(t, "Set", x.Set(l), api.ErrNil)
	}
	if got := x.Rules(); len(got) != 0 {
		t.Errorf("Rules() = %v", got)
	}
	if x.All() == nil {
		t.Fatal("All() is nil")
	}
	for range 2 {
		if places, _ := pairs(x.All()); len(places) != 0 {
			t.Errorf("All() gives %v", places)
		}
	}
	if v, at := x.Match(api.Header{Proto: 6}); v != (api.Verdict{}) || at != -1 {
		t.Errorf("Match = %+v, %d", v, at)
	}
	if x.Clone() != nil {
		t.Error("Clone() is not nil")
	}
}

// R2

func TestListsThatAreHandedInStay(t *testing.T) {
	room := some(8)
	before := slices.Clone(room)
	x := made(t, config(64))
	sameErr(t, "Set", x.Set(room[:4]), api.OK)
	sameErr(t, "Insert", x.Insert(4, every(500, api.Log)), api.OK)
	sameErr(t, "Insert", x.Insert(0, every(501, api.Log)), api.OK)
	sameErr(t, "Move", x.Move(1, 4), api.OK)
	sameErr(t, "Delete", x.Delete(2), api.OK)
	if !slices.Equal(room, before) {
		t.Errorf("the list, or its spare room, became %v", room)
	}
}

func TestSpareRoomOfAnEmptyListStays(t *testing.T) {
	room := some(3)
	x := made(t, config(64))
	sameErr(t, "Set", x.Set(room[:0]), api.OK)
	sameErr(t, "Insert", x.Insert(0, every(500, api.Log)), api.OK)
	if !slices.Equal(room, some(3)) {
		t.Errorf("the spare room became %v", room)
	}
}

func TestListsThatAreHandedInAreNotKept(t *testing.T) {
	l := some(4)
	x := made(t, config(64))
	sameErr(t, "Set", x.Set(l), api.OK)
	clear(l)
	holds(t, "behind a change of the list", x, some(4))
}

func TestAListThatIsRefusedStays(t *testing.T) {
	l := append(some(4), every(1, api.Log))
	before := slices.Clone(l)
	sameErr(t, "Set", made(t, config(64)).Set(l), api.ErrTableTwice)
	if !slices.Equal(l, before) {
		t.Errorf("the list became %v", l)
	}
}

func TestWhatWasToldIsTheCallers(t *testing.T) {
	x := made(t, config(64), some(4)...)
	told, other := x.Rules(), x.Rules()
	clear(told)
	holds(t, "behind a change of what was told", x, some(4))
	if !slices.Equal(other, some(4)) {
		t.Errorf("another answer became %v", other)
	}
	_ = append(x.Rules(), every(700, api.Log))
	sameErr(t, "Insert", x.Insert(4, every(500, api.Queue)), api.OK)
	_ = append(other, every(701, api.Log))
	holds(t, "behind growth of what was told", x, append(some(4), every(500, api.Queue)))
	sameErr(t, "Delete", x.Delete(1), api.OK)
	if !slices.Equal(other, some(4)) {
		t.Errorf("what was told became %v behind Delete", other)
	}
}

func TestTablesKnowNothingOfOneAnother(t *testing.T) {
	l := some(4)
	x, y := made(t, config(64)), made(t, config(64))
	sameErr(t, "Set", x.Set(l), api.OK)
	sameErr(t, "Set", y.Set(l), api.OK)
	sameErr(t, "Move", x.Move(1, 3), api.OK)
	sameErr(t, "Delete", y.Delete(4), api.OK)
	holds(t, "one table", x, more(less(l, 0), 3, l[0]))
	holds(t, "the other one", y, l[:3])
	sameErr(t, "Set of another table's", y.Set(x.Rules()), api.OK)
	sameErr(t, "Delete", y.Delete(1), api.OK)
	holds(t, "one table", x, more(less(l, 0), 3, l[0]))
}

// P11.7

func TestWhatIsDeletedAndInsertedAgainIsAsIfItHadStayed(t *testing.T) {
	draw := drawer(11)
	for _, n := range []int{1, 2, 5, 64} {
		rules := drawRules(draw, n)
		x := made(t, config(n), rules...)
		for place, r := range rules {
			sameErr(t, "Delete", x.Delete(r.Id), api.OK)
			answers(t, "behind Delete", x, less(rules, place), api.Deny, fewHeaders()[:40])
			sameErr(t, "Insert", x.Insert(place, r), api.OK)
			holds(t, "behind both", x, rules)
		}
		answers(t, "behind all", x, rules, api.Deny, fewHeaders())
	}
}

func TestARuleBehindAllDecidesWhatNoneDecided(t *testing.T) {
	draw := drawer(12)
	for range 20 {
		rules := drawRules(draw, 1+draw(20))
		x := made(t, config(64), rules...)
		before := x.Clone()
		sameErr(t, "Insert", x.Insert(len(rules), every(999, api.Queue)), api.OK)
		for _, h := range fewHeaders() {
			want, wantAt := before.Match(h)
			if !want.Hit {
				want, wantAt = api.Verdict{Hit: true, Id: 999, Action: api.Queue}, len(rules)
			}
			if v, at := x.Match(h); v != want || at != wantAt {
				t.Fatalf("Match(%+v) = %+v, %d, wanted %+v, %d", h, v, at, want, wantAt)
			}
		}
	}
}

// drawRules are n rules that may be, the Ids from 1 on, in any order; many of them share headers.
func drawRules(draw func(int) int, n int) []api.Rule {
	list := make([]api.Rule, n)
	for i := range list {
		list[i] = drawRule(draw, i+1)
		other := draw(i + 1)
		list[i].Id, list[other].Id = list[other].Id, list[i].Id
	}
	return list
}

func drawRule(draw func(int) int, id int) api.Rule {
	prefixes := []api.Prefix{{}, {}, {Addr: 0x0a000000, Len: 8}, {Addr: 0x0a000000, Len: 7}, {Addr: 0xc0a80000, Len: 16}, {Addr: math.MaxUint32, Len: 32}, {Addr: 1 << 31, Len: 1}}
	spans := []api.Span{{Hi: 65535}, {Hi: 65535}, {Lo: 80, Hi: 80}, {Lo: 1, Hi: 1023}, {Lo: 0, Hi: 0}, {Lo: 443, Hi: 65535}}
	masks := []api.Mask{{}, {}, {Value: 6, Care: 255}, {Value: 1, Care: 1}, {Value: 0, Care: 0x80}}
	return api.Rule{
		Id: id, Action: api.Action(1 + draw(4)),
		Src: prefixes[draw(len(prefixes))], Dst: prefixes[draw(len(prefixes))],
		Sport: spans[draw(len(spans))], Dport: spans[draw(len(spans))],
		Proto: masks[draw(len(masks))],
	}
}

// walker is a table and the list that it is to be, modelled by lists that are made anew.
type walker struct {
	t    *testing.T
	x    *table.Table
	l    []api.Rule
	most int
}

func (w *walker) placeOf(id int) int {
	for i, r := range w.l {
		if r.Id == id {
			return i
		}
	}
	return -1
}

func (w *walker) insert(place int, r api.Rule) {
	got := w.x.Insert(place, r)
	switch {
	case r.Action > api.Queue:
		sameErr(w.t, "Insert", got, api.ErrRuleAction)
	case w.placeOf(r.Id) >= 0:
		sameErr(w.t, "Insert", got, api.ErrTableTwice)
	case place < 0 || place > len(w.l):
		sameErr(w.t, "Insert", got, api.ErrTablePlace)
	case len(w.l) == w.most:
		sameErr(w.t, "Insert", got, api.ErrTableFull)
	default:
		sameErr(w.t, "Insert", got, api.OK)
		w.l = more(w.l, place, r)
	}
}

func (w *walker) delete(id int) {
	got := w.x.Delete(id)
	if w.placeOf(id) < 0 {
		sameErr(w.t, "Delete", got, api.ErrTableNone)
		return
	}
	sameErr(w.t, "Delete", got, api.OK)
	w.l = less(w.l, w.placeOf(id))
}

func (w *walker) move(id, place int) {
	got, from := w.x.Move(id, place), w.placeOf(id)
	switch {
	case from < 0:
		sameErr(w.t, "Move", got, api.ErrTableNone)
	case place < 0 || place >= len(w.l):
		sameErr(w.t, "Move", got, api.ErrTablePlace)
	default:
		sameErr(w.t, "Move", got, api.OK)
		w.l = more(less(w.l, from), place, w.l[from])
	}
}

func (w *walker) set(l []api.Rule) {
	got := w.x.Set(l)
	if len(l) > w.most {
		sameErr(w.t, "Set", got, api.ErrTableFull)
		return
	}
	sameErr(w.t, "Set", got, api.OK)
	w.l = slices.Clone(l)
}

func TestWalk(t *testing.T) {
	draw := drawer(13)
	heads := fewHeaders()
	for _, most := range []int{1, 2, 5, 12, 64} {
		w := &walker{t: t, x: made(t, config(most)), most: most}
		for step := range 1500 {
			id, place := 1+draw(most+most/2+1), draw(len(w.l)+3)-1
			switch draw(12) {
			case 0, 1, 2, 3, 4:
				r := drawRule(draw, id)
				if draw(10) == 0 {
					r.Action = 5
				}
				w.insert(place, r)
			case 5, 6, 7:
				w.delete(id)
			case 8, 9, 10:
				w.move(id, place)
			case 11:
				w.set(drawRules(draw, draw(most+3)))
			}
			holds(t, "step "+strconv.Itoa(step), w.x, w.l)
			from := draw(len(heads) - 20)
			answers(t, "step "+strconv.Itoa(step), w.x, w.l, api.Deny, heads[from:from+20])
			if t.Failed() {
				return
			}
		}
	}
}

// The chapter's table of examples, row by row.
func TestExamples(t *testing.T) {
	a, b, c := every(1, api.Permit), every(2, api.Log), every(3, api.Deny)
	x := made(t, config(2))
	sameErr(t, "Insert(0, A)", x.Insert(0, a), api.OK)
	sameErr(t, "Insert(0, B)", x.Insert(0, b), api.OK)
	sameErr(t, "Insert(0, B)", x.Insert(0, b), api.ErrTableTwice)
	sameErr(t, "Insert(0, C)", x.Insert(0, c), api.ErrTableFull)

	holds(t, "behind Insert", x, []api.Rule{b, a})
	for _, h := range fewHeaders() {
		if v, at := x.Match(h); v != (api.Verdict{Hit: true, Id: 2, Action: api.Log}) || at != 0 {
			t.Errorf("Match(%+v) = %+v, %d", h, v, at)
		}
	}
	if x.Find(1) != 1 || x.Find(9) != -1 {
		t.Errorf("Find: %d, %d", x.Find(1), x.Find(9))
	}
	if r, err := x.At(0); r != b || err != api.OK {
		t.Errorf("At(0) = %+v, %d", r, err)
	}
	if r, err := x.At(2); r != (api.Rule{}) || err != api.ErrTablePlace {
		t.Errorf("At(2) = %+v, %d", r, err)
	}

	sameErr(t, "Move(2, 1)", x.Move(2, 1), api.OK)
	if v, at := x.Match(api.Header{}); v != (api.Verdict{Hit: true, Id: 1, Action: api.Permit}) || at != 0 {
		t.Errorf("Match behind Move = %+v, %d", v, at)
	}
	sameErr(t, "Move(2, 2)", x.Move(2, 2), api.ErrTablePlace)
	sameErr(t, "Move(7, 0)", x.Move(7, 0), api.ErrTableNone)

	sameErr(t, "Delete(1)", x.Delete(1), api.OK)
	sameErr(t, "Delete(1)", x.Delete(1), api.ErrTableNone)
	sameErr(t, "Delete(2)", x.Delete(2), api.OK)
	if v, at := x.Match(api.Header{}); v != (api.Verdict{Action: api.Deny}) || at != -1 {
		t.Errorf("Match behind Delete = %+v, %d", v, at)
	}

	sameErr(t, "Set(A, B, A)", x.Set([]api.Rule{a, b, a}), api.ErrTableTwice)
	sameErr(t, "Set(A, B, C)", x.Set([]api.Rule{a, b, c}), api.ErrTableFull)
	sameErr(t, "Set(B)", x.Set([]api.Rule{b}), api.OK)
	holds(t, "behind Set", x, []api.Rule{b})

	for _, write := range []func(*api.Config){
		func(c *api.Config) { c.Max = 0 },
		func(c *api.Config) { c.Binth = 17 },
		func(c *api.Config) { c.Depth = 11 },
		func(c *api.Config) { c.Default = 5 },
	} {
		c := config(2)
		write(&c)
		sameErr(t, "Check", table.Check(c), api.ErrTableConfig)
	}
}
