package rule_test

import (
	"math"
	"math/big"
	"testing"

	"quintet/api"
	"quintet/box"
	"quintet/header"
	"quintet/prefix"
	"quintet/rule"
)

const (
	lastAddr = math.MaxUint32
	lastPort = math.MaxUint16
)

// everything is the rule of all headers, written out.
var everything = api.Rule{
	Id: 2, Src: api.Prefix{Addr: 0, Len: 0}, Dst: api.Prefix{Addr: 0, Len: 0},
	Sport: api.Span{Lo: 0, Hi: 65535}, Dport: api.Span{Lo: 0, Hi: 65535},
	Proto: api.Mask{Value: 0, Care: 0}, Action: api.Deny,
}

// web is the W of the chapter's examples.
var web = with(everything, id(1), src(0x0a000000, 8), dport(80, 81), proto(6, 255), action(api.Permit))

// middle is a rule none of whose fields is at an edge.
var middle = with(everything, id(500), src(0x0a0b0000, 16), dst(0xc0a80a00, 24), sport(300, 399), dport(400, 499), proto(0x11, 0x33), action(api.Log))

// greatest is the last header of all.
var greatest = api.Header{Src: lastAddr, Dst: lastAddr, Sport: lastPort, Dport: lastPort, Proto: 255}

// with is a rule with some of its fields changed.
func with(r api.Rule, changes ...func(*api.Rule)) api.Rule {
	for _, change := range changes {
		change(&r)
	}
	return r
}

func id(n int) func(*api.Rule) { return func(r *api.Rule) { r.Id = n } }

func src(addr uint32, n int) func(*api.Rule) {
	return func(r *api.Rule) { r.Src = api.Prefix{Addr: addr, Len: n} }
}

func dst(addr uint32, n int) func(*api.Rule) {
	return func(r *api.Rule) { r.Dst = api.Prefix{Addr: addr, Len: n} }
}

func sport(lo, hi uint16) func(*api.Rule) {
	return func(r *api.Rule) { r.Sport = api.Span{Lo: lo, Hi: hi} }
}

func dport(lo, hi uint16) func(*api.Rule) {
	return func(r *api.Rule) { r.Dport = api.Span{Lo: lo, Hi: hi} }
}

func proto(value, care uint8) func(*api.Rule) {
	return func(r *api.Rule) { r.Proto = api.Mask{Value: value, Care: care} }
}

func action(a api.Action) func(*api.Rule) { return func(r *api.Rule) { r.Action = a } }

// The model: a rule's four number fields as ends in 64 bits, its protocols as a set.

type ends struct{ lo, hi int64 }

// addresses asks for a prefix that may be.
func addresses(p api.Prefix) ends {
	n := int64(1) << (32 - p.Len)
	return ends{int64(p.Addr), int64(p.Addr) + n - 1}
}

func numbers(r api.Rule) [4]ends {
	return [4]ends{
		addresses(r.Src), addresses(r.Dst),
		{int64(r.Sport.Lo), int64(r.Sport.Hi)}, {int64(r.Dport.Lo), int64(r.Dport.Hi)},
	}
}

func protocols(m api.Mask) (set [256]bool, n int) {
	for p := range set {
		set[p] = m.Value&^m.Care == 0 && uint8(p)&m.Care == m.Value
		if set[p] {
			n++
		}
	}
	return set, n
}

func prefixMayBe(p api.Prefix) bool {
	return 0 <= p.Len && p.Len <= 32 && int64(p.Addr)%(int64(1)<<(32-p.Len)) == 0
}

// mayBe is DOC.md's word by word.
func mayBe(r api.Rule) bool {
	_, n := protocols(r.Proto)
	return 1 <= r.Id && r.Id <= 999999 && prefixMayBe(r.Src) && prefixMayBe(r.Dst) &&
		r.Sport.Lo <= r.Sport.Hi && r.Dport.Lo <= r.Dport.Hi && n > 0 && 1 <= r.Action && r.Action <= 4
}

// matches is the model's Match.
func matches(r api.Rule, h api.Header) bool {
	if !mayBe(r) {
		return false
	}
	v := [4]int64{int64(h.Src), int64(h.Dst), int64(h.Sport), int64(h.Dport)}
	for i, e := range numbers(r) {
		if v[i] < e.lo || e.hi < v[i] {
			return false
		}
	}
	set, _ := protocols(r.Proto)
	return set[h.Proto]
}

// size is the model's Count.
func size(r api.Rule) *big.Int {
	if !mayBe(r) {
		return new(big.Int)
	}
	_, n := protocols(r.Proto)
	total := big.NewInt(int64(n))
	for _, e := range numbers(r) {
		total.Mul(total, big.NewInt(e.hi-e.lo+1))
	}
	return total
}

// told is Count's answer as one number.
func told(r api.Rule) *big.Int {
	high, low := rule.Count(r)
	n := new(big.Int).Lsh(new(big.Int).SetUint64(high), 64)
	return n.Add(n, new(big.Int).SetUint64(low))
}

// within is the model's Within.
func within(a, b api.Rule) bool {
	if !mayBe(a) || !mayBe(b) {
		return false
	}
	x, y := numbers(a), numbers(b)
	for i := range x {
		if x[i].lo < y[i].lo || y[i].hi < x[i].hi {
			return false
		}
	}
	p, _ := protocols(a.Proto)
	q, _ := protocols(b.Proto)
	for i := range p {
		if p[i] && !q[i] {
			return false
		}
	}
	return true
}

// meets is the model's Meets.
func meets(a, b api.Rule) (api.Header, bool) {
	if !mayBe(a) || !mayBe(b) {
		return api.Header{}, false
	}
	var least [4]int64
	x, y := numbers(a), numbers(b)
	for i := range x {
		least[i] = max(x[i].lo, y[i].lo)
		if least[i] > x[i].hi || least[i] > y[i].hi {
			return api.Header{}, false
		}
	}
	p, _ := protocols(a.Proto)
	q, _ := protocols(b.Proto)
	for i := range p {
		if p[i] && q[i] {
			return api.Header{
				Src: uint32(least[0]), Dst: uint32(least[1]),
				Sport: uint16(least[2]), Dport: uint16(least[3]), Proto: uint8(i),
			}, true
		}
	}
	return api.Header{}, false
}

// drawer gives numbers by a rule that goes all about, the same each time.
func drawer(state uint64) func(n int) int {
	return func(n int) int {
		state = state*6364136223846793005 + 1442695040888963407
		return int(state >> 33 % uint64(n))
	}
}

// prefixes, spans and masks: at the edges and amid them, of one number and of many, that hold one another, touch and lie apart.

var prefixes = []api.Prefix{
	{}, {Addr: 0, Len: 32}, {Addr: lastAddr, Len: 32}, {Addr: 0, Len: 1}, {Addr: 1 << 31, Len: 1}, {Addr: 0x0a000000, Len: 8}, {Addr: 0x0b000000, Len: 8},
	{Addr: 0x0a000000, Len: 7}, {Addr: 0x0a800000, Len: 9}, {Addr: 0x0a000001, Len: 32}, {Addr: 0x0a000000, Len: 31}, {Addr: lastAddr - 1, Len: 31},
}

var spans = []api.Span{
	{Lo: 0, Hi: lastPort}, {Lo: 0, Hi: 0}, {Lo: lastPort, Hi: lastPort}, {Lo: 0, Hi: 9}, {Lo: 10, Hi: 19}, {Lo: 5, Hi: 14},
	{Lo: 9, Hi: 9}, {Lo: 9, Hi: 10}, {Lo: 1, Hi: lastPort}, {Lo: 0, Hi: lastPort - 1}, {Lo: 1 << 15, Hi: lastPort}, {Lo: 0, Hi: 1<<15 - 1},
}

var masks = []api.Mask{
	{Value: 0, Care: 0}, {Value: 0, Care: 255}, {Value: 255, Care: 255}, {Value: 6, Care: 255}, {Value: 17, Care: 255}, {Value: 0, Care: 0x80},
	{Value: 0x80, Care: 0x80}, {Value: 0, Care: 1}, {Value: 1, Care: 1}, {Value: 0x11, Care: 0x33}, {Value: 0x10, Care: 0xf0}, {Value: 0x04, Care: 0x0f},
}

var ids = []int{1, 2, 7, 1000, 999998, 999999}

// drawRule is a rule that may be.
func drawRule(draw func(int) int) api.Rule {
	return api.Rule{
		Id: ids[draw(len(ids))], Action: api.Action(1 + draw(4)),
		Src: prefixes[draw(len(prefixes))], Dst: prefixes[draw(len(prefixes))],
		Sport: spans[draw(len(spans))], Dport: spans[draw(len(spans))],
		Proto: masks[draw(len(masks))],
	}
}

// near is the rule with but a few fields drawn anew, so that many pairs share headers.
func near(r api.Rule, draw func(int) int) api.Rule {
	other := drawRule(draw)
	r.Id, r.Action = other.Id, other.Action
	for range 1 + draw(3) {
		switch draw(5) {
		case 0:
			r.Src = other.Src
		case 1:
			r.Dst = other.Dst
		case 2:
			r.Sport = other.Sport
		case 3:
			r.Dport = other.Dport
		case 4:
			r.Proto = other.Proto
		}
	}
	return r
}

// eachField is the rule with each of its five fields in turn set to the edge of that number.
func eachField(r api.Rule, i int) [5]api.Rule {
	return [5]api.Rule{
		with(r, src(prefixes[i].Addr, prefixes[i].Len)), with(r, dst(prefixes[i].Addr, prefixes[i].Len)),
		with(r, sport(spans[i].Lo, spans[i].Hi)), with(r, dport(spans[i].Lo, spans[i].Hi)),
		with(r, proto(masks[i].Value, masks[i].Care)),
	}
}

// allRules are rules that may be.
func allRules() []api.Rule {
	list := []api.Rule{everything, web, middle}
	for _, n := range ids {
		list = append(list, with(web, id(n)))
	}
	for _, a := range []api.Action{api.Deny, api.Permit, api.Log, api.Queue} {
		list = append(list, with(web, action(a)))
	}
	for i := range prefixes {
		for _, r := range []api.Rule{everything, middle} {
			fields := eachField(r, i)
			list = append(list, fields[:]...)
		}
	}
	draw := drawer(7)
	for range 150 {
		list = append(list, drawRule(draw))
	}
	return list
}

// faults are what makes one field of a rule wrong, its error and its number.
var faults = []struct {
	change func(*api.Rule)
	want   api.Errno
	at     int
}{
	{id(0), api.ErrRuleId, 1},
	{id(-1), api.ErrRuleId, 1},
	{id(1000000), api.ErrRuleId, 1},
	{id(math.MaxInt), api.ErrRuleId, 1},
	{id(math.MinInt), api.ErrRuleId, 1},
	{src(0, -1), api.ErrPrefixLen, 2},
	{src(0, 33), api.ErrPrefixLen, 2},
	{src(1, 33), api.ErrPrefixLen, 2},
	{src(0, math.MinInt), api.ErrPrefixLen, 2},
	{src(0, math.MaxInt), api.ErrPrefixLen, 2},
	{src(1, 0), api.ErrPrefixBits, 2},
	{src(1, 31), api.ErrPrefixBits, 2},
	{src(0x0a000000, 6), api.ErrPrefixBits, 2},
	{dst(0, -1), api.ErrPrefixLen, 3},
	{dst(0, 33), api.ErrPrefixLen, 3},
	{dst(1, 0), api.ErrPrefixBits, 3},
	{dst(1<<31, 0), api.ErrPrefixBits, 3},
	{dst(lastAddr, 31), api.ErrPrefixBits, 3},
	{sport(2, 1), api.ErrSpanEnds, 4},
	{sport(lastPort, 0), api.ErrSpanEnds, 4},
	{dport(1, 0), api.ErrSpanEnds, 5},
	{dport(lastPort, lastPort-1), api.ErrSpanEnds, 5},
	{proto(1, 0), api.ErrMaskBits, 6},
	{proto(0x80, 0x7f), api.ErrMaskBits, 6},
	{proto(255, 254), api.ErrMaskBits, 6},
	{action(0), api.ErrRuleAction, 7},
	{action(5), api.ErrRuleAction, 7},
	{action(-1), api.ErrRuleAction, 7},
	{action(math.MaxInt), api.ErrRuleAction, 7},
	{action(math.MinInt), api.ErrRuleAction, 7},
}

// wrong are rules that may not be: each of the faults alone, of rules of all kinds.
func wrong() []api.Rule {
	var list []api.Rule
	for _, f := range faults {
		for _, r := range []api.Rule{everything, web, middle} {
			list = append(list, with(r, f.change))
		}
	}
	return append(list, api.Rule{}, with(api.Rule{}, id(1)), with(api.Rule{}, action(api.Deny)))
}

// headersAt are headers whose fields stand at, beside and between the ends of some rules' fields.
func headersAt(draw func(int) int, n int, rules ...api.Rule) []api.Header {
	addrs, ports, protos := []uint32{0, lastAddr}, []uint16{0, lastPort}, []uint8{0, 255}
	for _, r := range rules {
		for _, p := range []api.Prefix{r.Src, r.Dst} {
			last := p.Addr + uint32(uint64(1)<<(32-min(max(p.Len, 0), 32))-1)
			addrs = append(addrs, p.Addr-1, p.Addr, p.Addr/2+last/2, last, last+1)
		}
		for _, s := range []api.Span{r.Sport, r.Dport} {
			ports = append(ports, s.Lo-1, s.Lo, s.Lo/2+s.Hi/2, s.Hi, s.Hi+1)
		}
		protos = append(protos, r.Proto.Value, r.Proto.Value|^r.Proto.Care, ^r.Proto.Value)
	}
	var list []api.Header
	for range n {
		h := api.Header{
			Src: addrs[draw(len(addrs))], Dst: addrs[draw(len(addrs))],
			Sport: ports[draw(len(ports))], Dport: ports[draw(len(ports))],
			Proto: protos[draw(len(protos))],
		}
		if draw(3) == 0 {
			h.Proto = uint8(draw(256))
		}
		list = append(list, h)
	}
	return list
}

// inside is a header that a rule that may be matches.
func inside(r api.Rule, draw func(int) int) api.Header {
	var v [4]int64
	for i, e := range numbers(r) {
		v[i] = e.lo + int64(draw(1<<30))*int64(1+draw(4))%(e.hi-e.lo+1)
	}
	return api.Header{
		Src: uint32(v[0]), Dst: uint32(v[1]), Sport: uint16(v[2]), Dport: uint16(v[3]),
		Proto: uint8(draw(256))&^r.Proto.Care | r.Proto.Value,
	}
}

// pairs are rules two by two: each field at the edges alone, then all at once.
func pairs() [][2]api.Rule {
	var list [][2]api.Rule
	for i := range prefixes {
		for j := range prefixes {
			a, b := eachField(middle, i), eachField(with(middle, id(3), action(api.Queue)), j)
			for k := range a {
				list = append(list, [2]api.Rule{a[k], b[k]})
			}
		}
	}
	draw := drawer(19)
	for range 1500 {
		a := drawRule(draw)
		list = append(list,
			[2]api.Rule{a, near(a, draw)}, [2]api.Rule{near(a, draw), drawRule(draw)},
			[2]api.Rule{a, everything}, [2]api.Rule{everything, a})
	}
	return list
}

// P8.1

func TestCheck(t *testing.T) {
	for _, r := range allRules() {
		if err, at := rule.Check(r); err != api.OK || at != 0 {
			t.Errorf("Check(%v) = %d, %d", r, err, at)
		}
	}
	for _, r := range append(allRules(), wrong()...) {
		if err, _ := rule.Check(r); (err == api.OK) != mayBe(r) {
			t.Errorf("Check(%v) = %d", r, err)
		}
	}
}

func TestCheckOfIdsAndActions(t *testing.T) {
	for n, want := range map[int]api.Errno{-1: api.ErrRuleId, 0: api.ErrRuleId, 1: api.OK, 2: api.OK, 999998: api.OK, 999999: api.OK, 1000000: api.ErrRuleId} {
		if err, at := rule.Check(with(web, id(n))); err != want || at != min(int(want), 1) {
			t.Errorf("Check with Id %d = %d, %d", n, err, at)
		}
	}
	for a, want := range map[api.Action]api.Errno{-1: api.ErrRuleAction, 0: api.ErrRuleAction, api.Deny: api.OK, api.Permit: api.OK, api.Log: api.OK, api.Queue: api.OK, 5: api.ErrRuleAction} {
		if err, at := rule.Check(with(web, action(a))); err != want || at != min(int(want), 7) {
			t.Errorf("Check with Action %d = %d, %d", a, err, at)
		}
	}
}

func TestCheckOfOneFault(t *testing.T) {
	for i, f := range faults {
		for _, r := range []api.Rule{everything, web, middle} {
			if err, at := rule.Check(with(r, f.change)); err != f.want || at != f.at {
				t.Errorf("fault %d: Check(%v) = %d, %d, want %d, %d", i, with(r, f.change), err, at, f.want, f.at)
			}
		}
	}
}

func TestCheckOfTwoFaults(t *testing.T) {
	for i, f := range faults {
		for j, g := range faults {
			if f.at >= g.at {
				continue
			}
			for _, r := range []api.Rule{with(web, f.change, g.change), with(web, g.change, f.change)} {
				if err, at := rule.Check(r); err != f.want || at != f.at {
					t.Errorf("faults %d and %d: Check(%v) = %d, %d, want %d, %d", i, j, r, err, at, f.want, f.at)
				}
			}
		}
	}
}

func TestCheckOfAllFaults(t *testing.T) {
	r := with(web, id(0), src(1, 33), dst(1, 0), sport(2, 1), dport(2, 1), proto(1, 0), action(0))
	for i, c := range []struct {
		change func(*api.Rule)
		want   api.Errno
	}{
		{func(*api.Rule) {}, api.ErrRuleId}, {id(1), api.ErrPrefixLen}, {src(0, 32), api.ErrPrefixBits}, {dst(0, 0), api.ErrSpanEnds},
		{sport(1, 2), api.ErrSpanEnds}, {dport(2, 2), api.ErrMaskBits}, {proto(0, 0), api.ErrRuleAction},
	} {
		r = with(r, c.change)
		if err, at := rule.Check(r); err != c.want || at != i+1 {
			t.Errorf("Check(%v) = %d, %d, want %d, %d", r, err, at, c.want, i+1)
		}
	}
	if err, at := rule.Check(with(r, action(api.Queue))); err != api.OK || at != 0 {
		t.Errorf("Check with all mended = %d, %d", err, at)
	}
}

// P8.2

func TestMatch(t *testing.T) {
	draw := drawer(11)
	hits := 0
	for _, r := range allRules() {
		for _, h := range append(headersAt(draw, 60, r), api.Header{}, greatest, inside(r, draw), inside(r, draw)) {
			got := rule.Match(r, h)
			if got != matches(r, h) {
				t.Errorf("Match(%v, %v) = %v", r, h, got)
			}
			if got {
				hits++
			}
		}
	}
	if hits < 500 {
		t.Errorf("only %d matches", hits)
	}
}

func TestMatchAtEachEnd(t *testing.T) {
	in := api.Header{Src: 0x0a0b0c0d, Dst: 0xc0a80a14, Sport: 350, Dport: 450, Proto: 0x11}
	if !rule.Match(middle, in) {
		t.Fatal("the header amid the rule's fields is not matched")
	}
	for _, c := range []struct {
		name   string
		put    func(*api.Header, uint32)
		lo, hi uint32
	}{
		{"Src", func(h *api.Header, v uint32) { h.Src = v }, 0x0a0b0000, 0x0a0bffff},
		{"Dst", func(h *api.Header, v uint32) { h.Dst = v }, 0xc0a80a00, 0xc0a80aff},
		{"Sport", func(h *api.Header, v uint32) { h.Sport = uint16(v) }, 300, 399},
		{"Dport", func(h *api.Header, v uint32) { h.Dport = uint16(v) }, 400, 499},
	} {
		for v, want := range map[uint32]bool{0: false, c.lo - 1: false, c.lo: true, c.hi: true, c.hi + 1: false, lastAddr: false} {
			h := in
			c.put(&h, v)
			if got := rule.Match(middle, h); got != want {
				t.Errorf("Match with %s %d = %v", c.name, v, got)
			}
		}
	}
	for p := range 256 {
		h := in
		h.Proto = uint8(p)
		if got, want := rule.Match(middle, h), p&0x33 == 0x11; got != want {
			t.Errorf("Match with Proto %d = %v", p, got)
		}
	}
}

func TestWrongMatchesNothing(t *testing.T) {
	draw := drawer(13)
	for _, r := range wrong() {
		for _, h := range append(headersAt(draw, 60, r), api.Header{}, greatest, inside(everything, draw), inside(web, draw), inside(middle, draw)) {
			if rule.Match(r, h) {
				t.Errorf("Match(%v, %v) = true", r, h)
			}
		}
	}
}

// P8.3

func TestBox(t *testing.T) {
	for _, r := range allRules() {
		x := numbers(r)
		want := api.Box{
			Src: api.Run{Lo: uint32(x[0].lo), Hi: uint32(x[0].hi)}, Dst: api.Run{Lo: uint32(x[1].lo), Hi: uint32(x[1].hi)},
			Sport: r.Sport, Dport: r.Dport, Proto: r.Proto,
		}
		if got, err := rule.Box(r); got != want || err != api.OK {
			t.Errorf("Box(%v) = %v, %d, want %v", r, got, err, want)
		}
	}
}

func TestBoxOfWrong(t *testing.T) {
	for _, f := range faults {
		for _, g := range faults {
			if f.at > g.at {
				continue
			}
			r := with(middle, g.change, f.change)
			if got, err := rule.Box(r); got != (api.Box{}) || err != f.want {
				t.Errorf("Box(%v) = %v, %d, want %d", r, got, err, f.want)
			}
		}
	}
}

func TestCount(t *testing.T) {
	for _, r := range append(allRules(), wrong()...) {
		if got, want := told(r), size(r); got.Cmp(want) != 0 {
			t.Errorf("Count(%v) = %v, want %v", r, got, want)
		}
	}
}

func TestCountAboutTwoToThe64(t *testing.T) {
	single := with(everything, src(0, 0), dst(7, 32), sport(0, 0), dport(9, 9), proto(6, 255))
	for _, c := range []struct {
		r         api.Rule
		high, low uint64
	}{
		{with(single, src(1, 32)), 0, 1},
		{with(single, src(2, 31)), 0, 2},
		{with(single, src(1, 32), proto(0, 0)), 0, 256},
		{single, 0, 1 << 32},
		{with(single, dst(0, 1)), 0, 1 << 63},
		{with(single, dst(0, 0)), 1, 0},
		{with(single, dst(0, 0), dport(7, 9)), 3, 0},
		{with(single, dst(0, 1), dport(7, 9)), 1, 1 << 63},
		{with(single, sport(0, lastPort), dport(0, lastPort)), 1, 0},
		{with(single, sport(1, lastPort), dport(0, lastPort)), 0, math.MaxUint64 - 1<<48 + 1},
		{with(everything, proto(0, 255)), 1 << 32, 0},
		{with(everything, proto(0, 254)), 1 << 33, 0},
		{everything, 1 << 40, 0},
		{with(everything, sport(1, lastPort), dport(1, lastPort)), 0xfffe000100, 0},
		{with(everything, id(0)), 0, 0},
		{with(everything, action(5)), 0, 0},
		{api.Rule{}, 0, 0},
	} {
		if high, low := rule.Count(c.r); high != c.high || low != c.low {
			t.Errorf("Count(%v) = %d, %d, want %d, %d", c.r, high, low, c.high, c.low)
		}
	}
}

// P8.4

func TestWithin(t *testing.T) {
	held := 0
	for _, p := range pairs() {
		got := rule.Within(p[0], p[1])
		if got != within(p[0], p[1]) {
			t.Errorf("Within(%v, %v) = %v", p[0], p[1], got)
		}
		if got {
			held++
		}
	}
	if held < 1500 {
		t.Errorf("only %d rules lie within", held)
	}
}

func TestWithinFieldByField(t *testing.T) {
	for _, inner := range []api.Rule{
		with(middle, src(0x0a0b0000, 17)), with(middle, src(0x0a0bffff, 32)), with(middle, dst(0xc0a80a80, 25)), with(middle, dst(0xc0a80a00, 25)),
		with(middle, sport(301, 399)), with(middle, sport(300, 398)), with(middle, dport(401, 499)), with(middle, dport(400, 498)),
		with(middle, proto(0x11, 0x37)), with(middle, proto(0x15, 0x37)),
	} {
		if !rule.Within(inner, middle) || rule.Within(middle, inner) {
			t.Errorf("%v is not just within %v", inner, middle)
		}
	}
}

// Two fields within and three that are not make no rule within, nor does one that reaches out.
func TestWithinNeedsAllFive(t *testing.T) {
	outer := with(everything, src(0x0a000000, 8), dst(0x0b000000, 8), sport(10, 19), dport(20, 29), proto(0x10, 0xf0))
	inner := with(everything, src(0x0a010000, 16), dst(0x0b010000, 16), sport(11, 18), dport(21, 28), proto(0x11, 0xff))
	if !rule.Within(inner, outer) {
		t.Fatal("the inner one is not within")
	}
	for _, change := range []func(*api.Rule){
		src(0x0a000000, 7), src(0x0b000000, 8), dst(0x0a000000, 7), dst(0x0c000000, 8), sport(9, 18), sport(11, 20),
		dport(19, 28), dport(21, 30), proto(0x01, 0x0f), proto(0x20, 0xff), proto(0, 0),
	} {
		if r := with(inner, change); rule.Within(r, outer) {
			t.Errorf("Within(%v, %v)", r, outer)
		}
	}
}

func TestPairsWithWrong(t *testing.T) {
	good := []api.Rule{everything, web, middle}
	bad := wrong()
	for _, r := range bad {
		for _, other := range append(append(good, r), bad...) {
			for _, p := range [][2]api.Rule{{r, other}, {other, r}} {
				if rule.Within(p[0], p[1]) {
					t.Errorf("Within(%v, %v)", p[0], p[1])
				}
				if h, ok := rule.Meets(p[0], p[1]); ok || h != (api.Header{}) {
					t.Errorf("Meets(%v, %v) = %v, %v", p[0], p[1], h, ok)
				}
			}
		}
	}
}

func TestMeets(t *testing.T) {
	shared := 0
	for _, p := range pairs() {
		h, ok := rule.Meets(p[0], p[1])
		if want, share := meets(p[0], p[1]); h != want || ok != share {
			t.Errorf("Meets(%v, %v) = %v, %v, want %v, %v", p[0], p[1], h, ok, want, share)
		}
		if other, also := rule.Meets(p[1], p[0]); other != h || also != ok {
			t.Errorf("Meets(%v, %v) = %v, %v the other way round", p[0], p[1], other, also)
		}
		if ok {
			shared++
		}
	}
	if shared < 1500 {
		t.Errorf("only %d pairs meet", shared)
	}
}

func TestMeetsByHand(t *testing.T) {
	for _, c := range []struct {
		a, b api.Rule
		want api.Header
		ok   bool
	}{
		{everything, everything, api.Header{}, true},
		{everything, middle, api.Header{Src: 0x0a0b0000, Dst: 0xc0a80a00, Sport: 300, Dport: 400, Proto: 0x11}, true},
		{with(everything, src(0, 1)), with(everything, src(1<<31, 1)), api.Header{}, false},
		{with(everything, src(0x0a000000, 31)), with(everything, src(0x0a000001, 32)), api.Header{Src: 0x0a000001}, true},
		{with(everything, src(0x0a000000, 32)), with(everything, src(0x0a000001, 32)), api.Header{}, false},
		{with(everything, dst(lastAddr, 32)), with(everything, dst(lastAddr-1, 31)), api.Header{Dst: lastAddr}, true},
		{with(everything, dst(lastAddr, 32)), with(everything, dst(lastAddr-1, 32)), api.Header{}, false},
		{with(everything, sport(0, 9)), with(everything, sport(9, 20)), api.Header{Sport: 9}, true},
		{with(everything, sport(0, 9)), with(everything, sport(10, 20)), api.Header{}, false},
		{with(everything, dport(9, lastPort)), with(everything, dport(0, 9)), api.Header{Dport: 9}, true},
		{with(everything, dport(10, lastPort)), with(everything, dport(0, 9)), api.Header{}, false},
		{with(everything, proto(0x10, 0xf0)), with(everything, proto(0x01, 0x0f)), api.Header{Proto: 0x11}, true},
		{with(everything, proto(6, 255)), with(everything, proto(7, 255)), api.Header{}, false},
		{with(everything, src(lastAddr, 32), dst(0, 32), sport(lastPort, lastPort)), with(everything, src(lastAddr-1, 31), dport(3, 5), proto(0x80, 0x81)), api.Header{Src: lastAddr, Sport: lastPort, Dport: 3, Proto: 0x80}, true},
	} {
		for _, p := range [][2]api.Rule{{c.a, c.b}, {c.b, c.a}} {
			if h, ok := rule.Meets(p[0], p[1]); h != c.want || ok != c.ok {
				t.Errorf("Meets(%v, %v) = %v, %v, want %v, %v", p[0], p[1], h, ok, c.want, c.ok)
			}
		}
	}
}

func TestPairsLookNotAtIdAndAction(t *testing.T) {
	for _, p := range pairs() {
		other := with(p[1], id(999999-p[1].Id+1), action(5-p[1].Action))
		if rule.Within(p[0], other) != rule.Within(p[0], p[1]) {
			t.Errorf("Within(%v, %v) hangs on Id or Action", p[0], other)
		}
		h, ok := rule.Meets(p[0], p[1])
		if h2, ok2 := rule.Meets(p[0], other); h2 != h || ok2 != ok {
			t.Errorf("Meets(%v, %v) hangs on Id or Action", p[0], other)
		}
	}
	for _, r := range allRules() {
		twin := with(r, id(999999-r.Id+1), action(5-r.Action))
		if !rule.Within(r, twin) || !rule.Within(twin, r) {
			t.Errorf("%v is not within its twin", r)
		}
		if h, ok := rule.Meets(r, twin); !ok || !matches(r, h) {
			t.Errorf("Meets(%v, %v) = %v, %v", r, twin, h, ok)
		}
	}
}

// P8.5

func TestAll(t *testing.T) {
	for _, n := range []int{math.MinInt, -5, 0, 1, 2, 999999, 1000000, math.MaxInt} {
		for _, a := range []api.Action{math.MinInt, -1, 0, api.Deny, api.Permit, api.Log, api.Queue, 5, 77, math.MaxInt} {
			if got, want := rule.All(n, a), with(everything, id(n), action(a)); got != want {
				t.Errorf("All(%d, %d) = %v, want %v", n, a, got, want)
			}
		}
	}
	for _, h := range append(headersAt(drawer(17), 500, middle, web), api.Header{}, greatest) {
		if !rule.Match(rule.All(1, api.Queue), h) {
			t.Errorf("All does not match %v", h)
		}
	}
}

// P8.6

func TestMatchIsWhatTheBoxHas(t *testing.T) {
	draw := drawer(29)
	for _, r := range allRules() {
		b, err := rule.Box(r)
		if err != api.OK {
			t.Fatalf("Box(%v) = %d", r, err)
		}
		for _, h := range append(headersAt(draw, 40, r), inside(r, draw), api.Header{}, greatest) {
			if rule.Match(r, h) != box.Has(b, h) {
				t.Errorf("Match(%v, %v) is not what the box says", r, h)
			}
		}
	}
}

func TestWithinIsWhatBothMatch(t *testing.T) {
	for _, p := range pairs() {
		a, errA := rule.Box(p[0])
		b, errB := rule.Box(p[1])
		if errA != api.OK || errB != api.OK {
			t.Fatalf("Box: %d, %d", errA, errB)
		}
		both, ok := box.Meet(a, b)
		if want := ok && both == a; rule.Within(p[0], p[1]) != want {
			t.Errorf("Within(%v, %v) is not %v", p[0], p[1], want)
		}
	}
}

func TestMeetsIsTheLeast(t *testing.T) {
	draw := drawer(31)
	for _, p := range pairs() {
		least, ok := rule.Meets(p[0], p[1])
		if ok && (!rule.Match(p[0], least) || !rule.Match(p[1], least)) {
			t.Errorf("Meets(%v, %v) = %v, which one of them does not match", p[0], p[1], least)
		}
		for _, h := range append(headersAt(draw, 20, p[0], p[1]), inside(p[0], draw), inside(p[1], draw)) {
			if rule.Match(p[0], h) && rule.Match(p[1], h) && (!ok || header.Compare(least, h) > 0) {
				t.Errorf("Meets(%v, %v) = %v, %v, and both match %v", p[0], p[1], least, ok, h)
			}
		}
	}
}

func TestCountIsTheSumOfHalves(t *testing.T) {
	split := 0
	for _, r := range allRules() {
		low, high, err := prefix.Halves(r.Src)
		if err != api.OK {
			continue
		}
		split++
		a, b := r, r
		a.Src, b.Src = low, high
		if sum := new(big.Int).Add(told(a), told(b)); sum.Cmp(told(r)) != 0 {
			t.Errorf("Count(%v) = %v, of its halves %v", r, told(r), sum)
		}
	}
	if split < 50 {
		t.Errorf("only %d rules have halves", split)
	}
}

// R2: what was asked ahead changes nothing.
func TestSameAgain(t *testing.T) {
	for _, r := range append(allRules(), wrong()...) {
		err, at := rule.Check(r)
		b, boxErr := rule.Box(r)
		h, ok := rule.Meets(r, web)
		rule.Check(api.Rule{})
		rule.Box(middle)
		rule.Meets(middle, everything)
		rule.Count(everything)
		err2, at2 := rule.Check(r)
		b2, boxErr2 := rule.Box(r)
		h2, ok2 := rule.Meets(r, web)
		if err != err2 || at != at2 || b != b2 || boxErr != boxErr2 || h != h2 || ok != ok2 {
			t.Errorf("%v is answered otherwise the second time", r)
		}
	}
}

// The chapter's table.
func TestExamples(t *testing.T) {
	for _, c := range []struct {
		r    api.Rule
		want api.Errno
		at   int
	}{
		{web, api.OK, 0},
		{with(web, id(0)), api.ErrRuleId, 1},
		{with(web, id(0), sport(2, 1)), api.ErrRuleId, 1},
		{with(web, sport(2, 1)), api.ErrSpanEnds, 4},
		{with(web, action(5)), api.ErrRuleAction, 7},
	} {
		if err, at := rule.Check(c.r); err != c.want || at != c.at {
			t.Errorf("Check(%v) = %d, %d", c.r, err, at)
		}
	}
	h := api.Header{Src: 0x0a010101, Dst: 0x01020304, Sport: 5, Dport: 81, Proto: 6}
	other, third := h, h
	other.Dport, third.Proto = 82, 17
	if !rule.Match(web, h) || rule.Match(web, other) || rule.Match(web, third) {
		t.Error("Match")
	}
	if high, low := rule.Count(web); high != 512 || low != 0 {
		t.Errorf("Count(W) = %d, %d", high, low)
	}
	if high, low := rule.Count(rule.All(1, api.Deny)); high != 1<<40 || low != 0 {
		t.Errorf("Count of All = %d, %d", high, low)
	}
	all := rule.All(2, api.Deny)
	if got, ok := rule.Meets(web, all); got != (api.Header{Src: 0x0a000000, Dport: 80, Proto: 6}) || !ok {
		t.Errorf("Meets(W, All) = %v, %v", got, ok)
	}
	if got, ok := rule.Meets(web, with(web, dport(82, 90))); got != (api.Header{}) || ok {
		t.Errorf("Meets of W and its neighbour = %v, %v", got, ok)
	}
	if !rule.Within(web, all) || rule.Within(all, web) {
		t.Error("Within")
	}
}
