package syntax_test

import (
	"errors"
	"fmt"
	"math"
	"net/netip"
	"slices"
	"strings"
	"testing"

	"quintet/api"
	"quintet/lex"
	"quintet/rule"
	"quintet/syntax"
)

// The model reads by other means: it writes out every shape that a line may have,
// token by token, and drops the shapes that a token does not fit.

// slot is a place in a shape: what may stand there, of which field it is, and
// which of the line's values it tells.
type slot struct {
	want  string // "N": a number; "$": a line's end; else the token itself
	most  uint32 // of a number
	field string
	tells []string
}

// shape is a line's slots, and the values that go without being told.
type shape struct {
	slots []slot
	fixed map[string]int
}

// join gives each of the one list's shapes with each of the other's behind it.
func join(lists ...[]shape) []shape {
	got := []shape{{}}
	for _, list := range lists {
		var longer []shape
		for _, a := range got {
			for _, b := range list {
				fixed := map[string]int{}
				for _, part := range []shape{a, b} {
					for name, value := range part.fixed {
						fixed[name] = value
					}
				}
				longer = append(longer, shape{slices.Concat(a.slots, b.slots), fixed})
			}
		}
		got = longer
	}
	return got
}

func sign(text, field string) []shape {
	return []shape{{slots: []slot{{want: text, field: field}}}}
}

func number(most uint32, field string, tells ...string) []shape {
	return []shape{{slots: []slot{{want: "N", most: most, field: field, tells: tells}}}}
}

func fixed(list []shape, name string, value int) []shape {
	return join(list, []shape{{fixed: map[string]int{name: value}}})
}

func word(text, name string, value int) []shape {
	return fixed(sign(text, name), name, value)
}

func addressShapes(f string) []shape {
	dot := sign(".", f)
	return join(number(255, f, f+"3"), dot, number(255, f, f+"2"), dot, number(255, f, f+"1"), dot, number(255, f, f+"0"))
}

func prefixShapes(f string) []shape {
	return slices.Concat(
		fixed(sign("*", f), f+"Len", 0),
		fixed(addressShapes(f), f+"Len", 32),
		join(addressShapes(f), sign("/", f), number(32, f, f+"Len")),
	)
}

func spanShapes(f string) []shape {
	return slices.Concat(
		fixed(sign("*", f), f+"Hi", 65535),
		number(65535, f, f+"Lo", f+"Hi"),
		join(number(65535, f, f+"Lo"), sign(":", f), number(65535, f, f+"Hi")),
	)
}

func maskShapes(f string) []shape {
	return slices.Concat(
		sign("*", f),
		fixed(number(255, f, f+"Value"), f+"Care", 255),
		join(number(255, f, f+"Value"), sign("/", f), number(255, f, f+"Care")),
	)
}

var ruleBody = join(
	number(math.MaxUint32, "Id", "Id"),
	slices.Concat(word("deny", "Action", 1), word("permit", "Action", 2), word("log", "Action", 3), word("queue", "Action", 4)),
	prefixShapes("Src"), prefixShapes("Dst"), spanShapes("Sport"), spanShapes("Dport"), maskShapes("Proto"),
)

var ruleShapes = join(ruleBody, sign("$", ""))

var commandShapes = join(slices.Concat(
	join(word("insert", "Kind", 1), number(math.MaxUint32, "", "Pos"), ruleBody),
	join(word("delete", "Kind", 2), number(math.MaxUint32, "", "Id")),
	join(word("move", "Kind", 3), number(math.MaxUint32, "", "Id"), number(math.MaxUint32, "", "Pos")),
	join(word("ask", "Kind", 4), addressShapes("Src"), addressShapes("Dst"),
		number(65535, "", "SportLo"), number(65535, "", "DportLo"), number(255, "", "ProtoValue")),
	word("thin", "Kind", 5), word("dump", "Kind", 6), word("stats", "Kind", 7),
	word("shadows", "Kind", 8), word("clashes", "Kind", 9), word("map", "Kind", 10),
), sign("$", ""))

func fits(tok api.Tok, s slot) bool {
	switch s.want {
	case "N":
		return tok.Kind == api.TokNumber && tok.Value <= s.most
	case "$":
		return tok.Kind == api.TokEnd
	}
	return tok.Kind != api.TokEnd && tok.Text == s.want
}

// modelLine gives a line's values and the shape that it has, or what is wrong and where.
func modelLine(toks []api.Tok, alive []shape) (map[string]int, shape, api.Fault) {
	values := map[string]int{}
	for i, tok := range toks {
		var left []shape
		code := api.ErrSyntaxTok
		for _, s := range alive {
			if fits(tok, s.slots[i]) {
				left = append(left, s)
			} else if s.slots[i].want == "N" && tok.Kind == api.TokNumber {
				code = api.ErrSyntaxValue
			}
		}
		if len(left) == 0 {
			return nil, shape{}, api.Fault{Code: code, Line: tok.Line, Col: tok.Col}
		}
		alive = left
	}
	if len(alive) != 1 || len(alive[0].slots) != len(toks) {
		panic("a line that is read in two ways")
	}
	for name, value := range alive[0].fixed {
		values[name] = value
	}
	for i, s := range alive[0].slots {
		for _, name := range s.tells {
			values[name] = int(toks[i].Value)
		}
	}
	return values, alive[0], api.Fault{}
}

func modelAddress(values map[string]int, f string) uint32 {
	return uint32(values[f+"3"]<<24 + values[f+"2"]<<16 + values[f+"1"]<<8 + values[f+"0"])
}

func modelRule(values map[string]int) api.Rule {
	return api.Rule{
		Id:     values["Id"],
		Src:    api.Prefix{Addr: modelAddress(values, "Src"), Len: values["SrcLen"]},
		Dst:    api.Prefix{Addr: modelAddress(values, "Dst"), Len: values["DstLen"]},
		Sport:  api.Span{Lo: uint16(values["SportLo"]), Hi: uint16(values["SportHi"])},
		Dport:  api.Span{Lo: uint16(values["DportLo"]), Hi: uint16(values["DportHi"])},
		Proto:  api.Mask{Value: uint8(values["ProtoValue"]), Care: uint8(values["ProtoCare"])},
		Action: api.Action(values["Action"]),
	}
}

func modelCommand(values map[string]int) api.Command {
	c := api.Command{Kind: api.CommandKind(values["Kind"]), Pos: values["Pos"]}
	switch c.Kind {
	case api.CmdInsert:
		c.Rule = modelRule(values)
	case api.CmdAsk:
		c.Head = api.Header{Src: modelAddress(values, "Src"), Dst: modelAddress(values, "Dst"),
			Sport: uint16(values["SportLo"]), Dport: uint16(values["DportLo"]), Proto: uint8(values["ProtoValue"])}
	default:
		c.Id = values["Id"]
	}
	return c
}

// modelCheck gives rule.Check's error at the field's first token.
func modelCheck(r api.Rule, toks []api.Tok, s shape) api.Fault {
	code, field := rule.Check(r)
	if code == api.OK {
		return api.Fault{}
	}
	name := []string{"", "Id", "Src", "Dst", "Sport", "Dport", "Proto", "Action"}[field]
	i := slices.IndexFunc(s.slots, func(x slot) bool { return x.field == name })
	return api.Fault{Code: code, Line: toks[i].Line, Col: toks[i].Col}
}

// modelLines gives the tokens of each line that says something, or lex's error.
func modelLines(text string) ([][]api.Tok, api.Fault) {
	toks, err := lex.All(text)
	var bad *api.Fault
	if errors.As(err, &bad) {
		return nil, *bad
	}
	var lines [][]api.Tok
	for i, from := 0, 0; i < len(toks); i++ {
		if toks[i].Kind == api.TokEnd {
			if i > from {
				lines = append(lines, toks[from:i+1])
			}
			from = i + 1
		}
	}
	return lines, api.Fault{}
}

func modelRules(text string) ([]api.Rule, api.Fault) {
	lines, bad := modelLines(text)
	if bad.Code != api.OK {
		return nil, bad
	}
	var list []api.Rule
	for _, toks := range lines {
		values, s, bad := modelLine(toks, ruleShapes)
		if bad.Code != api.OK {
			return nil, bad
		}
		at := api.Fault{Line: toks[0].Line, Col: toks[0].Col}
		if len(list) >= 64 {
			at.Code = api.ErrSyntaxMany
			return nil, at
		}
		r := modelRule(values)
		if bad := modelCheck(r, toks, s); bad.Code != api.OK {
			return nil, bad
		}
		if slices.ContainsFunc(list, func(x api.Rule) bool { return x.Id == r.Id }) {
			at.Code = api.ErrSyntaxTwice
			return nil, at
		}
		list = append(list, r)
	}
	return list, api.Fault{}
}

func modelScript(text string) ([]api.Command, api.Fault) {
	lines, bad := modelLines(text)
	if bad.Code != api.OK {
		return nil, bad
	}
	var list []api.Command
	for _, toks := range lines {
		values, s, bad := modelLine(toks, commandShapes)
		if bad.Code != api.OK {
			return nil, bad
		}
		if len(list) >= 1000 {
			return nil, api.Fault{Code: api.ErrSyntaxMany, Line: toks[0].Line, Col: toks[0].Col}
		}
		c := modelCommand(values)
		if c.Kind == api.CmdInsert {
			if bad := modelCheck(c.Rule, toks, s); bad.Code != api.OK {
				return nil, bad
			}
		}
		list = append(list, c)
	}
	return list, api.Fault{}
}

// The model's printing.

func address(addr uint32) string {
	return netip.AddrFrom4([4]byte{byte(addr >> 24), byte(addr >> 16), byte(addr >> 8), byte(addr)}).String()
}

func printPrefix(p api.Prefix) string {
	text := fmt.Sprintf("%s/%d", address(p.Addr), p.Len)
	if text == "0.0.0.0/0" {
		return "*"
	}
	return strings.TrimSuffix(text, "/32")
}

func printSpan(s api.Span) string {
	text := fmt.Sprintf("%d:%d", s.Lo, s.Hi)
	low, high, _ := strings.Cut(text, ":")
	if low == high {
		return low
	}
	if text == "0:65535" {
		return "*"
	}
	return text
}

func printMask(m api.Mask) string {
	text := fmt.Sprintf("%d/%d", m.Value, m.Care)
	if text == "0/0" {
		return "*"
	}
	return strings.TrimSuffix(text, "/255")
}

func printRule(r api.Rule) string {
	action := map[api.Action]string{api.Deny: "deny", api.Permit: "permit", api.Log: "log", api.Queue: "queue"}[r.Action]
	return fmt.Sprint(r.Id, " ", action, " ", printPrefix(r.Src), " ", printPrefix(r.Dst), " ",
		printSpan(r.Sport), " ", printSpan(r.Dport), " ", printMask(r.Proto))
}

func printHeader(h api.Header) string {
	return fmt.Sprintf("%s %s %d %d %d", address(h.Src), address(h.Dst), h.Sport, h.Dport, h.Proto)
}

func printCommand(c api.Command) string {
	switch c.Kind {
	case api.CmdInsert:
		return fmt.Sprintf("insert %d %s", c.Pos, printRule(c.Rule))
	case api.CmdDelete:
		return fmt.Sprintf("delete %d", c.Id)
	case api.CmdMove:
		return fmt.Sprintf("move %d %d", c.Id, c.Pos)
	case api.CmdAsk:
		return "ask " + printHeader(c.Head)
	}
	return strings.Fields("thin dump stats shadows clashes map")[c.Kind-api.CmdThin]
}

// What the tests share.

// drawer gives numbers below n, the same ones each time.
func drawer(seed uint64) func(n int) int {
	state := seed
	return func(n int) int {
		state = state*6364136223846793005 + 1442695040888963407
		return int(state >> 33 % uint64(n))
	}
}

var allPorts = api.Span{Hi: 65535}

// short tells a text that is too long to be told whole.
func short(text string) string {
	if len(text) > 300 {
		return fmt.Sprintf("%q.. (%d bytes)", text[:300], len(text))
	}
	return fmt.Sprintf("%q", text)
}

// sameFault tells whether the error is that Fault; of none: whether it is nil.
func sameFault(err error, want api.Fault) bool {
	if want.Code == api.OK {
		return err == nil
	}
	f, ok := err.(*api.Fault)
	return ok && f != nil && *f == want && errors.Is(err, want.Code)
}

// agrees holds both calls' answers to a text against the model's.
func agrees(t *testing.T, text string) {
	t.Helper()
	rules, err := syntax.Rules(text)
	wantRules, bad := modelRules(text)
	if !slices.Equal(rules, wantRules) || !sameFault(err, bad) {
		t.Fatalf("Rules of %s: %v, %v, want %v, %v", short(text), rules, err, wantRules, bad)
	}
	list, err := syntax.Script(text)
	wantList, bad := modelScript(text)
	if !slices.Equal(list, wantList) || !sameFault(err, bad) {
		t.Fatalf("Script of %s: %v, %v, want %v, %v", short(text), list, err, wantList, bad)
	}
}

// refused is an input and what is wrong with it.
type refused struct {
	text      string
	code      api.Errno
	line, col int
}

func refusedAsRules(t *testing.T, list []refused) {
	t.Helper()
	for _, c := range list {
		got, err := syntax.Rules(c.text)
		if len(got) != 0 || !sameFault(err, api.Fault{Code: c.code, Line: c.line, Col: c.col}) {
			t.Errorf("Rules of %s: %v, %v, want %d at %d, %d", short(c.text), got, err, c.code, c.line, c.col)
		}
	}
}

func refusedAsScript(t *testing.T, list []refused) {
	t.Helper()
	for _, c := range list {
		got, err := syntax.Script(c.text)
		if len(got) != 0 || !sameFault(err, api.Fault{Code: c.code, Line: c.line, Col: c.col}) {
			t.Errorf("Script of %s: %v, %v, want %d at %d, %d", short(c.text), got, err, c.code, c.line, c.col)
		}
	}
}

// rulesText gives n rules' lines, with Ids from 1 on.
func rulesText(n int) string {
	var out strings.Builder
	for i := range n {
		fmt.Fprintf(&out, "%d log * * * * *\n", i+1)
	}
	return out.String()
}

func rulesList(n int) []api.Rule {
	var list []api.Rule
	for i := range n {
		list = append(list, rule.All(i+1, api.Log))
	}
	return list
}

// edge draws a number up to most, often at an end.
func edge(draw func(int) int, most int) int {
	switch draw(4) {
	case 0:
		return 0
	case 1:
		return most
	}
	return draw(most + 1)
}

func drawPrefix(draw func(int) int) api.Prefix {
	n := edge(draw, 32)
	addr := uint32(draw(1<<16)<<16 | draw(1<<16))
	return api.Prefix{Addr: uint32(uint64(addr) >> (32 - n) << (32 - n)), Len: n}
}

func drawSpan(draw func(int) int) api.Span {
	a, b := edge(draw, 65535), edge(draw, 65535)
	return api.Span{Lo: uint16(min(a, b)), Hi: uint16(max(a, b))}
}

func drawMask(draw func(int) int) api.Mask {
	care := edge(draw, 255)
	return api.Mask{Value: uint8(draw(256) & care), Care: uint8(care)}
}

// drawRule draws a rule that may be.
func drawRule(draw func(int) int) api.Rule {
	return api.Rule{
		Id: 1 + edge(draw, 999998), Src: drawPrefix(draw), Dst: drawPrefix(draw),
		Sport: drawSpan(draw), Dport: drawSpan(draw), Proto: drawMask(draw), Action: api.Action(1 + draw(4)),
	}
}

// drawRules draws a list that may be.
func drawRules(draw func(int) int, n int) []api.Rule {
	list := make([]api.Rule, n)
	for i := range list {
		list[i] = drawRule(draw)
		list[i].Id = 1 + i*15000 + draw(15000)
	}
	return list
}

func drawHeader(draw func(int) int) api.Header {
	return api.Header{Src: uint32(edge(draw, math.MaxUint32)), Dst: uint32(edge(draw, math.MaxUint32)),
		Sport: uint16(edge(draw, 65535)), Dport: uint16(edge(draw, 65535)), Proto: uint8(edge(draw, 255))}
}

// drawCommand draws a command that may be.
func drawCommand(draw func(int) int) api.Command {
	c := api.Command{Kind: api.CommandKind(1 + draw(10))}
	switch c.Kind {
	case api.CmdInsert:
		c.Pos, c.Rule = edge(draw, math.MaxUint32), drawRule(draw)
	case api.CmdDelete:
		c.Id = edge(draw, math.MaxUint32)
	case api.CmdMove:
		c.Id, c.Pos = edge(draw, math.MaxUint32), edge(draw, math.MaxUint32)
	case api.CmdAsk:
		c.Head = drawHeader(draw)
	}
	return c
}

func drawCommands(draw func(int) int, n int) []api.Command {
	list := make([]api.Command, n)
	for i := range list {
		list[i] = drawCommand(draw)
	}
	return list
}

// P10.1

func TestRulesForms(t *testing.T) {
	whole := rule.All(1, api.Deny)
	for _, c := range []struct {
		text string
		set  func(r *api.Rule)
	}{
		{"1 deny * * * * *", func(r *api.Rule) {}},
		{"999999 deny * * * * *", func(r *api.Rule) { r.Id = 999999 }},
		{"1 permit * * * * *", func(r *api.Rule) { r.Action = api.Permit }},
		{"1 log * * * * *", func(r *api.Rule) { r.Action = api.Log }},
		{"1 queue * * * * *", func(r *api.Rule) { r.Action = api.Queue }},
		{"1 deny 1.2.3.4 * * * *", func(r *api.Rule) { r.Src = api.Prefix{Addr: 0x01020304, Len: 32} }},
		{"1 deny 0.0.0.0 * * * *", func(r *api.Rule) { r.Src = api.Prefix{Len: 32} }},
		{"1 deny 255.255.255.255 * * * *", func(r *api.Rule) { r.Src = api.Prefix{Addr: 0xffffffff, Len: 32} }},
		{"1 deny 1.2.3.4/32 * * * *", func(r *api.Rule) { r.Src = api.Prefix{Addr: 0x01020304, Len: 32} }},
		{"1 deny 1.2.3.4/30 * * * *", func(r *api.Rule) { r.Src = api.Prefix{Addr: 0x01020304, Len: 30} }},
		{"1 deny 128.0.0.0/1 * * * *", func(r *api.Rule) { r.Src = api.Prefix{Addr: 0x80000000, Len: 1} }},
		{"1 deny 0.0.0.0/0 * * * *", func(r *api.Rule) {}},
		{"1 deny 0.0.0.0/5 * * * *", func(r *api.Rule) { r.Src = api.Prefix{Len: 5} }},
		{"1 deny * 1.2.3.4 * * *", func(r *api.Rule) { r.Dst = api.Prefix{Addr: 0x01020304, Len: 32} }},
		{"1 deny * 10.0.0.0/8 * * *", func(r *api.Rule) { r.Dst = api.Prefix{Addr: 0x0a000000, Len: 8} }},
		{"1 deny * * 0 * *", func(r *api.Rule) { r.Sport = api.Span{} }},
		{"1 deny * * 65535 * *", func(r *api.Rule) { r.Sport = api.Span{Lo: 65535, Hi: 65535} }},
		{"1 deny * * 7:7 * *", func(r *api.Rule) { r.Sport = api.Span{Lo: 7, Hi: 7} }},
		{"1 deny * * 1:65535 * *", func(r *api.Rule) { r.Sport = api.Span{Lo: 1, Hi: 65535} }},
		{"1 deny * * 0:65535 * *", func(r *api.Rule) {}},
		{"1 deny * * * 80 *", func(r *api.Rule) { r.Dport = api.Span{Lo: 80, Hi: 80} }},
		{"1 deny * * * 80:89 *", func(r *api.Rule) { r.Dport = api.Span{Lo: 80, Hi: 89} }},
		{"1 deny * * * * 6", func(r *api.Rule) { r.Proto = api.Mask{Value: 6, Care: 255} }},
		{"1 deny * * * * 255", func(r *api.Rule) { r.Proto = api.Mask{Value: 255, Care: 255} }},
		{"1 deny * * * * 0", func(r *api.Rule) { r.Proto = api.Mask{Care: 255} }},
		{"1 deny * * * * 6/255", func(r *api.Rule) { r.Proto = api.Mask{Value: 6, Care: 255} }},
		{"1 deny * * * * 4/252", func(r *api.Rule) { r.Proto = api.Mask{Value: 4, Care: 252} }},
		{"1 deny * * * * 0/1", func(r *api.Rule) { r.Proto = api.Mask{Care: 1} }},
		{"1 deny * * * * 0/0", func(r *api.Rule) {}},
	} {
		want := whole
		c.set(&want)
		for _, text := range []string{
			c.text, c.text + "\n", c.text + "\r\n", c.text + " # 7", "\n\n" + c.text, "#x\n \t" + c.text + "\t#*\n\n",
			strings.ReplaceAll(c.text, " ", " \t "), spread(c.text),
		} {
			got, err := syntax.Rules(text)
			if err != nil || len(got) != 1 || got[0] != want {
				t.Errorf("Rules of %q: %v, %v, want %v", text, got, err, want)
			}
		}
	}
}

// spread lays blanks about every sign of a text.
func spread(text string) string {
	for _, s := range []string{".", "/", ":", "*"} {
		text = strings.ReplaceAll(text, s, " "+s+"\t")
	}
	return text
}

func TestRulesWithoutBlanks(t *testing.T) {
	got, err := syntax.Rules("1deny***80:81*\n2log1.2.3.4*80*6/7")
	want := []api.Rule{rule.All(1, api.Deny), rule.All(2, api.Log)}
	want[0].Dport = api.Span{Lo: 80, Hi: 81}
	want[1].Src, want[1].Sport = api.Prefix{Addr: 0x01020304, Len: 32}, api.Span{Lo: 80, Hi: 80}
	want[1].Proto = api.Mask{Value: 6, Care: 7}
	if err != nil || !slices.Equal(got, want) {
		t.Errorf("%v, %v, want %v", got, err, want)
	}
}

func TestTextsThatSayNothing(t *testing.T) {
	for _, text := range []string{
		"", " ", "\t\r ", "#", "# 1 deny", "\n", "\n\n", " \n\t\n\r\n", "#\n#\n", " # x", "\n#", strings.Repeat("\n", 65536),
	} {
		if got, err := syntax.Rules(text); len(got) != 0 || err != nil {
			t.Errorf("Rules of %s: %v, %v", short(text), got, err)
		}
		if got, err := syntax.Script(text); len(got) != 0 || err != nil {
			t.Errorf("Script of %s: %v, %v", short(text), got, err)
		}
	}
}

func TestRulesInOrder(t *testing.T) {
	want := []api.Rule{rule.All(9, api.Queue), rule.All(2, api.Deny), rule.All(5, api.Log)}
	for _, text := range []string{
		"9 queue * * * * *\n2 deny * * * * *\n5 log * * * * *",
		"9 queue * * * * *\n\n#\n2 deny * * * * *\r\n5 log * * * * *\n",
	} {
		if got, err := syntax.Rules(text); err != nil || !slices.Equal(got, want) {
			t.Errorf("Rules of %q: %v, %v", text, got, err)
		}
	}
}

func TestRulesLexErrors(t *testing.T) {
	refusedAsRules(t, []refused{
		{"1 deny * * * * * ?", api.ErrLexByte, 1, 18},
		{"1 deny * * * * *\n\n 07 deny * * * * *", api.ErrLexNumber, 3, 2},
		{"4294967296 deny * * * * *", api.ErrLexNumber, 1, 1},
		{"1 abcdefghijklmnopq", api.ErrLexWord, 1, 3},
		{"\n" + strings.Repeat(" ", 201), api.ErrLexLine, 2, 1},
		{strings.Repeat(" ", 65537), api.ErrLong, 0, 0},
		{"1 drop\n1 Deny", api.ErrLexByte, 2, 3},                          // lex's error comes ahead of one that stands ahead of it
		{"0 deny * * * * *\n1 deny * * 9:8 * *\n-", api.ErrLexByte, 3, 1}, // and of rule.Check's
		{rulesText(65) + strings.Repeat("#", 201), api.ErrLexLine, 66, 1}, // and of too many
		{"1 log * * * * *\n1 log * * * * *\n00", api.ErrLexNumber, 3, 1},  // and of an Id that is there twice
		{"1 deny 1.2.3.256 * * * *\nZ", api.ErrLexByte, 2, 1},             // and of a number too great
		{strings.Repeat("1 drop\n", 9363) + strings.Repeat("\n", 5), api.ErrLong, 0, 0},
	})
}

// eachPlace gives what a line becomes if a token of each kind stands in each
// place, instead of what stands there and ahead of it, if it ends there, and if
// a token is left out there.
func eachPlace(line string) []string {
	toks, _ := lex.All(line)
	toks = toks[:len(toks)-1]
	var parts []string
	for _, tok := range toks {
		parts = append(parts, tok.Text)
	}
	var texts []string
	add := func(list ...[]string) { texts = append(texts, strings.Join(slices.Concat(list...), " ")) }
	for i := range len(parts) + 1 {
		add(parts[:i])
		for _, other := range []string{"x", "deny", "thin", "insert", "map", "0", "32", "33", "255", "256", "65535", "65536", "4294967295", ".", "/", ":", "*", "\n"} {
			add(parts[:i], []string{other}, parts[i:])
			if i < len(parts) {
				add(parts[:i], []string{other}, parts[i+1:])
			}
		}
		if i < len(parts) {
			add(parts[:i], parts[i+1:])
		}
	}
	return texts
}

func TestRulesEachTokenInEachPlace(t *testing.T) {
	for _, line := range []string{
		"1 deny * * * * *",
		"7 permit 1.2.3.4 5.6.7.8 9 10 11",
		"7 permit 1.2.3.0/24 5.6.0.0/16 9:10 11:12 8/12",
		"8 log * 1.2.3.4 * 7:8 *",
		"8 queue 1.2.3.4 * 7 * 6",
	} {
		for _, text := range eachPlace(line) {
			agrees(t, text)
			agrees(t, text+"\n")
		}
	}
}

func TestRulesTokens(t *testing.T) {
	refusedAsRules(t, []refused{
		{"*", api.ErrSyntaxTok, 1, 1},
		{"deny", api.ErrSyntaxTok, 1, 1},
		{"\n  .", api.ErrSyntaxTok, 2, 3},
		{"thin", api.ErrSyntaxTok, 1, 1},
		{"1", api.ErrSyntaxTok, 1, 2},
		{"1\n", api.ErrSyntaxTok, 1, 2},
		{"1 # x", api.ErrSyntaxTok, 1, 6},
		{"1 2", api.ErrSyntaxTok, 1, 3},
		{"1 *", api.ErrSyntaxTok, 1, 3},
		{"1 thin", api.ErrSyntaxTok, 1, 3},
		{"1 denys * * * * *", api.ErrSyntaxTok, 1, 3},
		{"1 den * * * * *", api.ErrSyntaxTok, 1, 3},
		{"1 deny", api.ErrSyntaxTok, 1, 7},
		{"1 deny x", api.ErrSyntaxTok, 1, 8},
		{"1 deny .", api.ErrSyntaxTok, 1, 8},
		{"1 deny 1", api.ErrSyntaxTok, 1, 9},
		{"1 deny 1.", api.ErrSyntaxTok, 1, 10},
		{"1 deny 1..", api.ErrSyntaxTok, 1, 10},
		{"1 deny 1.*", api.ErrSyntaxTok, 1, 10},
		{"1 deny 1 2", api.ErrSyntaxTok, 1, 10},
		{"1 deny 1:2", api.ErrSyntaxTok, 1, 9},
		{"1 deny 1.2.3.4.5", api.ErrSyntaxTok, 1, 15},
		{"1 deny 1.2.3.4:5", api.ErrSyntaxTok, 1, 15},
		{"1 deny 1.2.3.4/", api.ErrSyntaxTok, 1, 16},
		{"1 deny 1.2.3.4/*", api.ErrSyntaxTok, 1, 16},
		{"1 deny 1.2.3.4/8/8", api.ErrSyntaxTok, 1, 17},
		{"1 deny */8", api.ErrSyntaxTok, 1, 9},
		{"1 deny * * 1.2", api.ErrSyntaxTok, 1, 13},
		{"1 deny * * 1/2", api.ErrSyntaxTok, 1, 13},
		{"1 deny * * 1:", api.ErrSyntaxTok, 1, 14},
		{"1 deny * * 1:* * *", api.ErrSyntaxTok, 1, 14},
		{"1 deny * * 1:2:3", api.ErrSyntaxTok, 1, 15},
		{"1 deny * * *:3", api.ErrSyntaxTok, 1, 13},
		{"1 deny * * * 1/2", api.ErrSyntaxTok, 1, 15},
		{"1 deny * * * *", api.ErrSyntaxTok, 1, 15},
		{"1 deny * * * * 6:7", api.ErrSyntaxTok, 1, 17},
		{"1 deny * * * * 6/", api.ErrSyntaxTok, 1, 18},
		{"1 deny * * * * 6/*", api.ErrSyntaxTok, 1, 18},
		{"1 deny * * * * 6/6/6", api.ErrSyntaxTok, 1, 19},
		{"1 deny * * * * */6", api.ErrSyntaxTok, 1, 17},
		{"1 deny * * * * * 1", api.ErrSyntaxTok, 1, 18},
		{"1 deny * * * * * deny", api.ErrSyntaxTok, 1, 18},
		{"1 deny * * * * * *\n", api.ErrSyntaxTok, 1, 18},
		{"1 deny * * *\n* *", api.ErrSyntaxTok, 1, 13}, // a rule has one line
	})
}

func TestRulesGreatNumbers(t *testing.T) {
	want := api.Rule{Id: 1, Src: api.Prefix{Addr: 0xffffffff, Len: 32}, Dst: api.Prefix{Addr: 0xffffffff, Len: 32},
		Sport: api.Span{Lo: 65535, Hi: 65535}, Dport: api.Span{Lo: 65535, Hi: 65535}, Proto: api.Mask{Value: 255, Care: 255}, Action: api.Deny}
	got, err := syntax.Rules("1 deny 255.255.255.255/32 255.255.255.255/32 65535:65535 65535:65535 255/255")
	if err != nil || len(got) != 1 || got[0] != want {
		t.Errorf("%v, %v", got, err)
	}
	refusedAsRules(t, []refused{
		{"1 deny 256.1.1.1 * * * *", api.ErrSyntaxValue, 1, 8},
		{"1 deny 1.256.1.1 * * * *", api.ErrSyntaxValue, 1, 10},
		{"1 deny 1.1.256.1 * * * *", api.ErrSyntaxValue, 1, 12},
		{"1 deny 1.1.1.256 * * * *", api.ErrSyntaxValue, 1, 14},
		{"1 deny 1.1.1.1/33 * * * *", api.ErrSyntaxValue, 1, 16},
		{"1 deny * 256.1.1.1 * * *", api.ErrSyntaxValue, 1, 10},
		{"1 deny * 1.256.1.1 * * *", api.ErrSyntaxValue, 1, 12},
		{"1 deny * 1.1.256.1 * * *", api.ErrSyntaxValue, 1, 14},
		{"1 deny * 1.1.1.256 * * *", api.ErrSyntaxValue, 1, 16},
		{"1 deny * 1.1.1.1/33 * * *", api.ErrSyntaxValue, 1, 18},
		{"1 deny * * 65536 * *", api.ErrSyntaxValue, 1, 12},
		{"1 deny * * 65536:1 * *", api.ErrSyntaxValue, 1, 12},
		{"1 deny * * 1:65536 * *", api.ErrSyntaxValue, 1, 14},
		{"1 deny * * * 65536 *", api.ErrSyntaxValue, 1, 14},
		{"1 deny * * * 1:65536 *", api.ErrSyntaxValue, 1, 16},
		{"1 deny * * * * 256", api.ErrSyntaxValue, 1, 16},
		{"1 deny * * * * 256/1", api.ErrSyntaxValue, 1, 16},
		{"1 deny * * * * 1/256", api.ErrSyntaxValue, 1, 18},
		{"1 deny 4294967295", api.ErrSyntaxValue, 1, 8},
		{"4294967295 deny * * * * *", api.ErrRuleId, 1, 1}, // any number may stand as an ID: rule.Check refuses it
		{"4294967295 drop", api.ErrSyntaxTok, 1, 12},
	})
}

func TestRulesChecked(t *testing.T) {
	refusedAsRules(t, []refused{
		{"0 deny * * * * *", api.ErrRuleId, 1, 1},
		{"\n   1000000 deny * * * * *", api.ErrRuleId, 2, 4},
		{"1 deny 10.0.0.1/8 * * * *", api.ErrPrefixBits, 1, 8},
		{"1 deny 0.0.0.1/0 * * * *", api.ErrPrefixBits, 1, 8},
		{"1 deny * 10.0.0.1/31 * * *", api.ErrPrefixBits, 1, 10},
		{"1 deny 1.1.1.1/32  10.0.0.1/31 * * *", api.ErrPrefixBits, 1, 20},
		{"1 deny * * 9:8 * *", api.ErrSpanEnds, 1, 12},
		{"1 deny * * * 65535:0 *", api.ErrSpanEnds, 1, 14},
		{"1 deny * * 1:2 9:8 *", api.ErrSpanEnds, 1, 16},
		{"1 deny * * * * 1/254", api.ErrMaskBits, 1, 16},
		{"1 deny * * * * 1/0", api.ErrMaskBits, 1, 16},
		{"1 deny * * 1:2 3:4 1/0", api.ErrMaskBits, 1, 20},
		// two that rule.Check refuses: its order is the fields'
		{"0 deny 10.0.0.1/8 * * * *", api.ErrRuleId, 1, 1},
		{"1 deny 10.0.0.1/8 10.0.0.1/8 * * *", api.ErrPrefixBits, 1, 8},
		{"1 deny * 10.0.0.1/8 2:1 * 1/0", api.ErrPrefixBits, 1, 10},
		{"1 deny * * * 2:1 1/0", api.ErrSpanEnds, 1, 14},
	})
}

func TestRulesTwoThingsWrong(t *testing.T) {
	full := rulesText(64)
	refusedAsRules(t, []refused{
		// in one line: a token comes ahead of all else, wherever it stands
		{"0 deny 10.0.0.1/8 * 2:1 * 1/0 *", api.ErrSyntaxTok, 1, 31},
		{"0 deny * * * 3:2", api.ErrSyntaxTok, 1, 17},
		{"1 deny 10.0.0.1/8 * 65536 * *", api.ErrSyntaxValue, 1, 21},
		{"1 drop 256", api.ErrSyntaxTok, 1, 3},
		{"1 deny 256 drop", api.ErrSyntaxValue, 1, 8},
		{"1 deny 1.1.1.256/33 x", api.ErrSyntaxValue, 1, 14},
		// in two lines: the first line's comes first
		{"1 deny * * 9:8 * *\n1 drop", api.ErrSpanEnds, 1, 12},
		{"1 drop\n1 deny * * 9:8 * *", api.ErrSyntaxTok, 1, 3},
		{"1 deny * * 65536 * *\n0 deny * * * * *", api.ErrSyntaxValue, 1, 12},
		{"0 deny * * * * *\n1 deny * * 65536 * *", api.ErrRuleId, 1, 1},
		{"1 log * * * * *\n1 log * * * * *\n1 drop", api.ErrSyntaxTwice, 2, 1},
		{"1 log * * * * *\n1 drop\n1 log * * * * *", api.ErrSyntaxTok, 2, 3},
		// a 65th rule that is wrong besides
		{full + "65 log * * * * *", api.ErrSyntaxMany, 65, 1},
		{full + "\n  65 log * * * * *", api.ErrSyntaxMany, 66, 3},
		{full + "65 log * * * * * *", api.ErrSyntaxTok, 65, 18},
		{full + "65 log * * 65536", api.ErrSyntaxValue, 65, 12},
		{full + "0 log * * * * *", api.ErrSyntaxMany, 65, 1},
		{full + "65 log * * 9:8 * *", api.ErrSyntaxMany, 65, 1},
		{full + "64 log * * * * *", api.ErrSyntaxMany, 65, 1},
		{full + "65 log * * * * *\n1 drop", api.ErrSyntaxMany, 65, 1},
		{full + "1 drop\n65 log * * * * *", api.ErrSyntaxTok, 65, 3},
		{rulesText(63) + "1 log * * * * *\n65 log * * * * *", api.ErrSyntaxTwice, 64, 1},
		// an Id that is there twice in a rule that is wrong besides
		{"1 log * * * * *\n 1 log * * * * *", api.ErrSyntaxTwice, 2, 2},
		{"1 log * * * * *\n1 log * * 9:8 * *", api.ErrSpanEnds, 2, 11},
		{"1 log * * * * *\n1 log * * * * 1/0", api.ErrMaskBits, 2, 15},
		{"1 log * * * * *\n1 log 10.0.0.1/8 * * * *", api.ErrPrefixBits, 2, 7},
		{"1 log * * * * *\n1 log * * *", api.ErrSyntaxTok, 2, 12},
		{"1 log * * * * *\n1 log 256", api.ErrSyntaxValue, 2, 7},
		{"0 log * * * * *\n0 log * * * * *", api.ErrRuleId, 1, 1},
		{"1 log * * * * *\n2 log * * * * *\n3 log * * * * *\n2 deny 1.1.1.1 * * * *", api.ErrSyntaxTwice, 4, 1},
		{"1 log * * * * *\n2 log * * * * *\n2 log * * * * *\n1 log * * * * *", api.ErrSyntaxTwice, 3, 1},
	})
}

func TestRulesMany(t *testing.T) {
	for _, n := range []int{1, 63, 64} {
		got, err := syntax.Rules(rulesText(n))
		if err != nil || !slices.Equal(got, rulesList(n)) {
			t.Errorf("%d rules: %d, %v", n, len(got), err)
		}
	}
	got, err := syntax.Rules(rulesText(64) + "\n# no more\n \n")
	if err != nil || len(got) != 64 {
		t.Errorf("64 rules and lines that say nothing: %d, %v", len(got), err)
	}
	refusedAsRules(t, []refused{{rulesText(65), api.ErrSyntaxMany, 65, 1}, {rulesText(200), api.ErrSyntaxMany, 65, 1}})
}

// P10.2

func TestScriptForms(t *testing.T) {
	first := rule.All(1, api.Log)
	other := api.Rule{Id: 999999, Src: api.Prefix{Addr: 0x0a000000, Len: 8}, Dst: api.Prefix{Addr: 0x01020304, Len: 32},
		Sport: api.Span{Lo: 1, Hi: 2}, Dport: api.Span{Lo: 3, Hi: 3}, Proto: api.Mask{Value: 4, Care: 6}, Action: api.Queue}
	for _, c := range []struct {
		text string
		want api.Command
	}{
		{"insert 0 1 log * * * * *", api.Command{Kind: api.CmdInsert, Rule: first}},
		{"insert 4294967295 1 log * * * * *", api.Command{Kind: api.CmdInsert, Pos: 4294967295, Rule: first}},
		{"insert 7 999999 queue 10.0.0.0/8 1.2.3.4 1:2 3 4/6", api.Command{Kind: api.CmdInsert, Pos: 7, Rule: other}},
		{"delete 0", api.Command{Kind: api.CmdDelete}},
		{"delete 5", api.Command{Kind: api.CmdDelete, Id: 5}},
		{"delete 4294967295", api.Command{Kind: api.CmdDelete, Id: 4294967295}},
		{"move 1 2", api.Command{Kind: api.CmdMove, Id: 1, Pos: 2}},
		{"move 4294967295 0", api.Command{Kind: api.CmdMove, Id: 4294967295}},
		{"move 0 4294967295", api.Command{Kind: api.CmdMove, Pos: 4294967295}},
		{"ask 0.0.0.0 0.0.0.0 0 0 0", api.Command{Kind: api.CmdAsk}},
		{"ask 10.0.0.1 1.2.3.4 5 80 6", api.Command{Kind: api.CmdAsk, Head: api.Header{Src: 0x0a000001, Dst: 0x01020304, Sport: 5, Dport: 80, Proto: 6}}},
		{"ask 255.255.255.255 255.255.255.255 65535 65535 255", api.Command{Kind: api.CmdAsk, Head: api.Header{Src: 0xffffffff, Dst: 0xffffffff, Sport: 65535, Dport: 65535, Proto: 255}}},
		{"thin", api.Command{Kind: api.CmdThin}},
		{"dump", api.Command{Kind: api.CmdDump}},
		{"stats", api.Command{Kind: api.CmdStats}},
		{"shadows", api.Command{Kind: api.CmdShadows}},
		{"clashes", api.Command{Kind: api.CmdClashes}},
		{"map", api.Command{Kind: api.CmdMap}},
	} {
		for _, text := range []string{
			c.text, c.text + "\n", c.text + "\r\n", c.text + " # thin", "\n#\n " + c.text + "\n\n",
			strings.ReplaceAll(c.text, " ", "\t  "), spread(c.text),
		} {
			got, err := syntax.Script(text)
			if err != nil || len(got) != 1 || got[0] != c.want {
				t.Errorf("Script of %q: %v, %v, want %v", text, got, err, c.want)
			}
		}
	}
}

func TestScriptInOrder(t *testing.T) {
	// which Ids there are is not looked at, nor whether a place may be
	got, err := syntax.Script("delete 9\ninsert 70 1 log * * * * *\n\ninsert 0 1 log * * * * *\ndump\nmove 8 900")
	want := []api.Command{
		{Kind: api.CmdDelete, Id: 9}, {Kind: api.CmdInsert, Pos: 70, Rule: rule.All(1, api.Log)},
		{Kind: api.CmdInsert, Rule: rule.All(1, api.Log)}, {Kind: api.CmdDump}, {Kind: api.CmdMove, Id: 8, Pos: 900},
	}
	if err != nil || !slices.Equal(got, want) {
		t.Errorf("%v, %v", got, err)
	}
	many := strings.Repeat("insert 0 1 log * * * * *\n", 100) // more than a list of rules may have
	if got, err := syntax.Script(many); err != nil || len(got) != 100 {
		t.Errorf("100 inserts: %d, %v", len(got), err)
	}
}

func TestScriptEachTokenInEachPlace(t *testing.T) {
	for _, line := range []string{
		"insert 0 1 deny * * * * *",
		"insert 7 8 permit 1.2.3.4 5.6.7.8 9 10 11",
		"insert 7 8 queue 1.2.3.0/24 5.6.0.0/16 9:10 11:12 8/12",
		"delete 5", "move 5 6", "ask 1.2.3.4 5.6.7.8 9 10 11",
		"thin", "dump", "stats", "shadows", "clashes", "map",
	} {
		for _, text := range eachPlace(line) {
			agrees(t, text)
			agrees(t, text+"\n")
		}
	}
}

func TestScriptRefused(t *testing.T) {
	thousand := strings.Repeat("thin\n", 1000)
	refusedAsScript(t, []refused{
		{"thin ?", api.ErrLexByte, 1, 6},
		{"x\n\n07", api.ErrLexNumber, 3, 1},
		{"delete 4294967296", api.ErrLexNumber, 1, 8},
		{"insert 4294967296 1 log * * * * *", api.ErrLexNumber, 1, 8},
		{"thin\nabcdefghijklmnopq", api.ErrLexWord, 2, 1},
		{"x\n" + strings.Repeat("x", 201), api.ErrLexLine, 2, 1},
		{strings.Repeat("\n", 65537), api.ErrLong, 0, 0},
		{thousand + "thin\n?", api.ErrLexByte, 1002, 1},

		{"7", api.ErrSyntaxTok, 1, 1},
		{"*", api.ErrSyntaxTok, 1, 1},
		{"deny", api.ErrSyntaxTok, 1, 1},
		{"inserts 1", api.ErrSyntaxTok, 1, 1},
		{"1 log * * * * *", api.ErrSyntaxTok, 1, 1},
		{"\n \nrule", api.ErrSyntaxTok, 3, 1},
		{"insert", api.ErrSyntaxTok, 1, 7},
		{"insert log", api.ErrSyntaxTok, 1, 8},
		{"insert 1", api.ErrSyntaxTok, 1, 9},
		{"insert 1 log * * * * *", api.ErrSyntaxTok, 1, 10},
		{"insert 1 1 thin", api.ErrSyntaxTok, 1, 12},
		{"insert 1 1 log * * * *", api.ErrSyntaxTok, 1, 23},
		{"insert 1 1 log * * * * * *", api.ErrSyntaxTok, 1, 26},
		{"insert 1\n1 log * * * * *", api.ErrSyntaxTok, 1, 9},
		{"delete", api.ErrSyntaxTok, 1, 7},
		{"delete *", api.ErrSyntaxTok, 1, 8},
		{"delete 1 2", api.ErrSyntaxTok, 1, 10},
		{"move", api.ErrSyntaxTok, 1, 5},
		{"move 1", api.ErrSyntaxTok, 1, 7},
		{"move 1 *", api.ErrSyntaxTok, 1, 8},
		{"move 1 2 3", api.ErrSyntaxTok, 1, 10},
		{"ask", api.ErrSyntaxTok, 1, 4},
		{"ask *", api.ErrSyntaxTok, 1, 5},
		{"ask 1.2.3.4/32", api.ErrSyntaxTok, 1, 12},
		{"ask 1.2.3.4 *", api.ErrSyntaxTok, 1, 13},
		{"ask 1.2.3.4 1.2.3.4 *", api.ErrSyntaxTok, 1, 21},
		{"ask 1.2.3.4 1.2.3.4 5:6", api.ErrSyntaxTok, 1, 22},
		{"ask 1.2.3.4 1.2.3.4 5 *", api.ErrSyntaxTok, 1, 23},
		{"ask 1.2.3.4 1.2.3.4 5 6:7", api.ErrSyntaxTok, 1, 24},
		{"ask 1.2.3.4 1.2.3.4 5 6", api.ErrSyntaxTok, 1, 24},
		{"ask 1.2.3.4 1.2.3.4 5 6 *", api.ErrSyntaxTok, 1, 25},
		{"ask 1.2.3.4 1.2.3.4 5 6 7/8", api.ErrSyntaxTok, 1, 26},
		{"ask 1.2.3.4 1.2.3.4 5 6 7 8", api.ErrSyntaxTok, 1, 27},
		{"thin 1", api.ErrSyntaxTok, 1, 6},
		{"dump *", api.ErrSyntaxTok, 1, 6},
		{"stats thin", api.ErrSyntaxTok, 1, 7},
		{"shadows /", api.ErrSyntaxTok, 1, 9},
		{"clashes 1 2", api.ErrSyntaxTok, 1, 9},
		{"map map", api.ErrSyntaxTok, 1, 5},

		{"ask 256.2.3.4 1.2.3.4 5 80 6", api.ErrSyntaxValue, 1, 5},
		{"ask 1.2.3.4 1.2.3.256 5 80 6", api.ErrSyntaxValue, 1, 19},
		{"ask 1.2.3.4 1.2.3.4 65536 80 6", api.ErrSyntaxValue, 1, 21},
		{"ask 1.2.3.4 1.2.3.4 5 65536 6", api.ErrSyntaxValue, 1, 23},
		{"ask 1.2.3.4 1.2.3.4 5 80 256", api.ErrSyntaxValue, 1, 26},
		{"insert 0 1 log * * 65536 * *", api.ErrSyntaxValue, 1, 20},
		{"insert 0 1 log 1.2.3.4/33 * * * *", api.ErrSyntaxValue, 1, 24},

		{"insert 0 0 log * * * * *", api.ErrRuleId, 1, 10},
		{" insert 1  1000000 log * * * * *", api.ErrRuleId, 1, 12},
		{"insert 0 4294967295 log * * * * *", api.ErrRuleId, 1, 10},
		{"insert 0 1 log 1.0.0.0/1 * * * *", api.ErrPrefixBits, 1, 16},
		{"insert 0 1 log * 1.0.0.0/1 * * *", api.ErrPrefixBits, 1, 18},
		{"insert 0 1 log * * 2:1 * *", api.ErrSpanEnds, 1, 20},
		{"insert 0 1 log * * * 2:1 *", api.ErrSpanEnds, 1, 22},
		{"insert 0 1 log * * * * 1/2", api.ErrMaskBits, 1, 24},
		{"insert 0 0 log * * 2:1 * *", api.ErrRuleId, 1, 10},
		{"insert 0 0 log * * 2:1 * * *", api.ErrSyntaxTok, 1, 28},
		{"insert 0 0 log * * 2:1 * *\nthin 1", api.ErrRuleId, 1, 10},
		{"thin 1\ninsert 0 0 log * * 2:1 * *", api.ErrSyntaxTok, 1, 6},

		{thousand + "map", api.ErrSyntaxMany, 1001, 1},
		{thousand + "\n map", api.ErrSyntaxMany, 1002, 2},
		{thousand + "map map", api.ErrSyntaxTok, 1001, 5},
		{thousand + "x", api.ErrSyntaxTok, 1001, 1},
		{thousand + "insert 0 0 log * * 65536 * *", api.ErrSyntaxValue, 1001, 20},
		{thousand + "insert 0 0 log * * * * *", api.ErrSyntaxMany, 1001, 1},
		{thousand + "insert 0 1 log * * 2:1 * *", api.ErrSyntaxMany, 1001, 1},
	})
}

func TestScriptMany(t *testing.T) {
	for _, n := range []int{1, 64, 65, 999, 1000} {
		got, err := syntax.Script(strings.Repeat("map\n", n))
		if err != nil || !slices.Equal(got, slices.Repeat([]api.Command{{Kind: api.CmdMap}}, n)) {
			t.Errorf("%d commands: %d, %v", n, len(got), err)
		}
	}
	if got, err := syntax.Script(strings.Repeat("map\n", 1000) + "\n#\n"); err != nil || len(got) != 1000 {
		t.Errorf("1000 commands and lines that say nothing: %d, %v", len(got), err)
	}
	refusedAsScript(t, []refused{{strings.Repeat("map\n", 1001), api.ErrSyntaxMany, 1001, 1}, {strings.Repeat("map\n", 3000), api.ErrSyntaxMany, 1001, 1}})
}

// TestDrawnTexts holds texts against the model whose lines are right or wrong in
// a token or two, some of them one behind the other.
func TestDrawnTexts(t *testing.T) {
	draw := drawer(10)
	others := strings.Fields("x deny permit log queue insert delete move ask thin map 0 1 7 32 33 255 256 65535 65536 999999 1000000 4294967295 . / : * ? 07")
	for range 6000 {
		var text strings.Builder
		for range draw(4) {
			line := printRule(drawRule(draw))
			if draw(2) == 0 {
				line = printCommand(drawCommand(draw))
			}
			toks, _ := lex.All(line)
			var parts []string
			for _, tok := range toks {
				parts = append(parts, tok.Text)
			}
			for range max(0, draw(6)-3) {
				i := draw(len(parts))
				switch draw(3) {
				case 0:
					parts[i] = others[draw(len(others))]
				case 1:
					parts = slices.Insert(parts, i, others[draw(len(others))])
				case 2:
					parts = append(slices.Delete(parts, i, i+1), "")
				}
			}
			text.WriteString(strings.Join(parts, strings.Repeat(" ", 1+draw(2))))
			text.WriteString([]string{"\n", "\n", "\r\n", " # x\n", "\n\n", ""}[draw(6)])
		}
		agrees(t, text.String())
	}
}

// TestBytes holds texts of a few bytes against the model, whatever they are.
func TestBytes(t *testing.T) {
	draw := drawer(11)
	for range 20000 {
		text := make([]byte, draw(12))
		for i := range text {
			text[i] = "1 2.*/:\n#denythimap\x00\xff"[draw(21)]
		}
		agrees(t, string(text))
	}
}

// P10.3

func TestPrintForms(t *testing.T) {
	whole := rule.All(1, api.Deny)
	for _, c := range []struct {
		set  func(r *api.Rule)
		want string
	}{
		{func(r *api.Rule) {}, "1 deny * * * * *"},
		{func(r *api.Rule) { r.Id = 999999 }, "999999 deny * * * * *"},
		{func(r *api.Rule) { r.Id = 100 }, "100 deny * * * * *"},
		{func(r *api.Rule) { r.Action = api.Permit }, "1 permit * * * * *"},
		{func(r *api.Rule) { r.Action = api.Log }, "1 log * * * * *"},
		{func(r *api.Rule) { r.Action = api.Queue }, "1 queue * * * * *"},
		{func(r *api.Rule) { r.Src = api.Prefix{Len: 32} }, "1 deny 0.0.0.0 * * * *"},
		{func(r *api.Rule) { r.Src = api.Prefix{Addr: 0xffffffff, Len: 32} }, "1 deny 255.255.255.255 * * * *"},
		{func(r *api.Rule) { r.Src = api.Prefix{Addr: 0x01020304, Len: 32} }, "1 deny 1.2.3.4 * * * *"},
		{func(r *api.Rule) { r.Src = api.Prefix{Addr: 0xfffffffe, Len: 31} }, "1 deny 255.255.255.254/31 * * * *"},
		{func(r *api.Rule) { r.Src = api.Prefix{Addr: 0x80000000, Len: 1} }, "1 deny 128.0.0.0/1 * * * *"},
		{func(r *api.Rule) { r.Src = api.Prefix{Len: 1} }, "1 deny 0.0.0.0/1 * * * *"},
		{func(r *api.Rule) { r.Dst = api.Prefix{Addr: 0x0a000000, Len: 8} }, "1 deny * 10.0.0.0/8 * * *"},
		{func(r *api.Rule) { r.Dst = api.Prefix{Addr: 0x0a000001, Len: 32} }, "1 deny * 10.0.0.1 * * *"},
		{func(r *api.Rule) { r.Sport = api.Span{} }, "1 deny * * 0 * *"},
		{func(r *api.Rule) { r.Sport = api.Span{Lo: 65535, Hi: 65535} }, "1 deny * * 65535 * *"},
		{func(r *api.Rule) { r.Sport = api.Span{Lo: 1, Hi: 65535} }, "1 deny * * 1:65535 * *"},
		{func(r *api.Rule) { r.Sport = api.Span{Hi: 65534} }, "1 deny * * 0:65534 * *"},
		{func(r *api.Rule) { r.Dport = api.Span{Lo: 80, Hi: 80} }, "1 deny * * * 80 *"},
		{func(r *api.Rule) { r.Dport = api.Span{Lo: 80, Hi: 81} }, "1 deny * * * 80:81 *"},
		{func(r *api.Rule) { r.Proto = api.Mask{Care: 255} }, "1 deny * * * * 0"},
		{func(r *api.Rule) { r.Proto = api.Mask{Value: 255, Care: 255} }, "1 deny * * * * 255"},
		{func(r *api.Rule) { r.Proto = api.Mask{Value: 6, Care: 254} }, "1 deny * * * * 6/254"},
		{func(r *api.Rule) { r.Proto = api.Mask{Care: 1} }, "1 deny * * * * 0/1"},
	} {
		r := whole
		c.set(&r)
		if got, code := syntax.Print(r); got != c.want || code != api.OK {
			t.Errorf("Print(%v) = %q, %d, want %q", r, got, code, c.want)
		}
		if got, code := syntax.PrintRules([]api.Rule{r}); got != c.want+"\n" || code != api.OK {
			t.Errorf("PrintRules(%v) = %q, %d, want %q", r, got, code, c.want)
		}
		if back, err := syntax.Rules(c.want); err != nil || !slices.Equal(back, []api.Rule{r}) {
			t.Errorf("Rules of %q: %v, %v", c.want, back, err)
		}
	}
}

// wrongRules are rules that may not be, with rule.Check's error.
func wrongRules() (list []api.Rule, codes []api.Errno) {
	add := func(code api.Errno, set func(r *api.Rule)) {
		r := rule.All(1, api.Deny)
		set(&r)
		list, codes = append(list, r), append(codes, code)
	}
	add(api.ErrRuleId, func(r *api.Rule) { r.Id = 0 })
	add(api.ErrRuleId, func(r *api.Rule) { r.Id = -1 })
	add(api.ErrRuleId, func(r *api.Rule) { r.Id = 1000000 })
	add(api.ErrRuleId, func(r *api.Rule) { r.Id = math.MinInt })
	add(api.ErrPrefixLen, func(r *api.Rule) { r.Src.Len = 33 })
	add(api.ErrPrefixLen, func(r *api.Rule) { r.Dst.Len = -1 })
	add(api.ErrPrefixBits, func(r *api.Rule) { r.Src.Addr = 1 })
	add(api.ErrPrefixBits, func(r *api.Rule) { r.Dst = api.Prefix{Addr: 1, Len: 31} })
	add(api.ErrSpanEnds, func(r *api.Rule) { r.Sport = api.Span{Lo: 1} })
	add(api.ErrSpanEnds, func(r *api.Rule) { r.Dport = api.Span{Lo: 65535, Hi: 65534} })
	add(api.ErrMaskBits, func(r *api.Rule) { r.Proto.Value = 1 })
	add(api.ErrRuleAction, func(r *api.Rule) { r.Action = 0 })
	add(api.ErrRuleAction, func(r *api.Rule) { r.Action = 5 })
	add(api.ErrRuleAction, func(r *api.Rule) { r.Action = math.MaxInt })
	add(api.ErrRuleAction, func(r *api.Rule) { r.Action = -1 })
	add(api.ErrRuleId, func(r *api.Rule) { *r = api.Rule{} })
	add(api.ErrSpanEnds, func(r *api.Rule) { r.Dport, r.Action = api.Span{Lo: 1}, 0 })
	return list, codes
}

func TestPrintWrongRules(t *testing.T) {
	list, codes := wrongRules()
	good := rule.All(7, api.Log)
	for i, r := range list {
		if got, code := syntax.Print(r); got != "" || code != codes[i] {
			t.Errorf("Print(%v) = %q, %d, want %d", r, got, code, codes[i])
		}
		for _, l := range [][]api.Rule{{r}, {good, r}, {r, good}, {good, r, good}, {r, api.Rule{}}} {
			if got, code := syntax.PrintRules(l); got != "" || code != codes[i] {
				t.Errorf("PrintRules(%v) = %q, %d, want %d", l, got, code, codes[i])
			}
		}
		c := api.Command{Kind: api.CmdInsert, Rule: r}
		for _, l := range [][]api.Command{{c}, {{Kind: api.CmdThin}, c}, {c, {}}} {
			if got, code := syntax.PrintScript(l); got != "" || code != codes[i] {
				t.Errorf("PrintScript(%v) = %q, %d, want %d", l, got, code, codes[i])
			}
		}
	}
}

func TestPrintRulesErrors(t *testing.T) {
	a, b, bad := rule.All(1, api.Log), rule.All(2, api.Deny), rule.All(0, api.Deny)
	twin := a
	twin.Src = api.Prefix{Len: 9}
	wrongTwin := a
	wrongTwin.Sport = api.Span{Lo: 2, Hi: 1}
	for _, c := range []struct {
		list []api.Rule
		want api.Errno
	}{
		{[]api.Rule{a, a}, api.ErrSyntaxTwice},
		{[]api.Rule{a, b, twin}, api.ErrSyntaxTwice},
		{[]api.Rule{a, b, b, bad}, api.ErrSyntaxTwice},
		{[]api.Rule{a, b, bad, b}, api.ErrRuleId},
		{[]api.Rule{bad, bad}, api.ErrRuleId},
		{[]api.Rule{a, wrongTwin}, api.ErrSpanEnds},
		{[]api.Rule{wrongTwin, a}, api.ErrSpanEnds},
		{rulesList(65), api.ErrLong},
		{append(rulesList(64), bad), api.ErrLong},
		{slices.Repeat([]api.Rule{bad}, 65), api.ErrLong},
		{slices.Repeat([]api.Rule{a}, 65), api.ErrLong},
		{slices.Repeat([]api.Rule{a}, 64), api.ErrSyntaxTwice},
		{slices.Repeat([]api.Rule{bad}, 64), api.ErrRuleId},
		{append(rulesList(63), a), api.ErrSyntaxTwice},
		{append(rulesList(63), bad), api.ErrRuleId},
	} {
		if got, code := syntax.PrintRules(c.list); got != "" || code != c.want {
			t.Errorf("PrintRules of %d rules: %q, %d, want %d", len(c.list), got, code, c.want)
		}
	}
}

func TestPrintRulesMany(t *testing.T) {
	for _, n := range []int{0, 1, 2, 63, 64} {
		if got, code := syntax.PrintRules(rulesList(n)); got != rulesText(n) || code != api.OK {
			t.Errorf("PrintRules of %d: %q, %d", n, got, code)
		}
	}
	if got, code := syntax.PrintRules(nil); got != "" || code != api.OK {
		t.Errorf("PrintRules(nil) = %q, %d", got, code)
	}
}

func TestPrintDrawn(t *testing.T) {
	draw := drawer(12)
	for range 20000 {
		r, h := drawRule(draw), drawHeader(draw)
		if got, code := syntax.Print(r); got != printRule(r) || code != api.OK {
			t.Fatalf("Print(%v) = %q, %d, want %q", r, got, code, printRule(r))
		}
		if got := syntax.PrintHeader(h); got != printHeader(h) {
			t.Fatalf("PrintHeader(%v) = %q, want %q", h, got, printHeader(h))
		}
	}
}

// P10.4

func TestPrintHeader(t *testing.T) {
	for _, c := range []struct {
		h    api.Header
		want string
	}{
		{api.Header{}, "0.0.0.0 0.0.0.0 0 0 0"},
		{api.Header{Src: 0xffffffff, Dst: 0xffffffff, Sport: 65535, Dport: 65535, Proto: 255}, "255.255.255.255 255.255.255.255 65535 65535 255"},
		{api.Header{Src: 0x01020304}, "1.2.3.4 0.0.0.0 0 0 0"},
		{api.Header{Dst: 0x01020304}, "0.0.0.0 1.2.3.4 0 0 0"},
		{api.Header{Sport: 100}, "0.0.0.0 0.0.0.0 100 0 0"},
		{api.Header{Dport: 10}, "0.0.0.0 0.0.0.0 0 10 0"},
		{api.Header{Proto: 17}, "0.0.0.0 0.0.0.0 0 0 17"},
	} {
		if got := syntax.PrintHeader(c.h); got != c.want {
			t.Errorf("PrintHeader(%v) = %q, want %q", c.h, got, c.want)
		}
	}
}

// oneOfEach gives a command of each kind, with no field that it uses zero.
func oneOfEach() []api.Command {
	r := rule.All(3, api.Queue)
	r.Dport = api.Span{Lo: 1, Hi: 2}
	return []api.Command{
		{Kind: api.CmdInsert, Pos: 4, Rule: r}, {Kind: api.CmdDelete, Id: 5}, {Kind: api.CmdMove, Id: 6, Pos: 7},
		{Kind: api.CmdAsk, Head: api.Header{Src: 1, Dst: 2, Sport: 3, Dport: 4, Proto: 5}},
		{Kind: api.CmdThin}, {Kind: api.CmdDump}, {Kind: api.CmdStats}, {Kind: api.CmdShadows}, {Kind: api.CmdClashes}, {Kind: api.CmdMap},
	}
}

func TestPrintScriptForms(t *testing.T) {
	want := "insert 4 3 queue * * * 1:2 *\ndelete 5\nmove 6 7\nask 0.0.0.1 0.0.0.2 3 4 5\nthin\ndump\nstats\nshadows\nclashes\nmap\n"
	if got, code := syntax.PrintScript(oneOfEach()); got != want || code != api.OK {
		t.Errorf("PrintScript of one of each: %q, %d", got, code)
	}
	for i, line := range strings.SplitAfter(strings.TrimSuffix(want, "\n"), "\n") {
		line = strings.TrimSuffix(line, "\n") + "\n"
		if got, code := syntax.PrintScript(oneOfEach()[i : i+1]); got != line || code != api.OK {
			t.Errorf("PrintScript of %q: %q, %d", line, got, code)
		}
	}
	for _, c := range []struct {
		command api.Command
		want    string
	}{
		{api.Command{Kind: api.CmdInsert, Rule: rule.All(1, api.Log)}, "insert 0 1 log * * * * *\n"},
		{api.Command{Kind: api.CmdInsert, Pos: 4294967295, Rule: rule.All(1, api.Log)}, "insert 4294967295 1 log * * * * *\n"},
		{api.Command{Kind: api.CmdDelete}, "delete 0\n"},
		{api.Command{Kind: api.CmdDelete, Id: 4294967295}, "delete 4294967295\n"},
		{api.Command{Kind: api.CmdMove}, "move 0 0\n"},
		{api.Command{Kind: api.CmdMove, Id: 4294967295, Pos: 4294967295}, "move 4294967295 4294967295\n"},
		{api.Command{Kind: api.CmdAsk}, "ask 0.0.0.0 0.0.0.0 0 0 0\n"},
	} {
		if got, code := syntax.PrintScript([]api.Command{c.command}); got != c.want || code != api.OK {
			t.Errorf("PrintScript(%v) = %q, %d, want %q", c.command, got, code, c.want)
		}
	}
	if got, code := syntax.PrintScript(nil); got != "" || code != api.OK {
		t.Errorf("PrintScript(nil) = %q, %d", got, code)
	}
}

// refusedScript tells that the command is refused with the code, alone and among others.
func refusedScript(t *testing.T, c api.Command, want api.Errno) {
	t.Helper()
	for _, l := range [][]api.Command{{c}, append(oneOfEach(), c), append([]api.Command{c}, oneOfEach()...)} {
		if got, code := syntax.PrintScript(l); got != "" || code != want {
			t.Errorf("PrintScript with %v among %d: %q, %d, want %d", c, len(l), got, code, want)
		}
	}
}

func TestPrintScriptKinds(t *testing.T) {
	for _, kind := range []api.CommandKind{0, -1, 11, 12, math.MaxInt, math.MinInt} {
		refusedScript(t, api.Command{Kind: kind}, api.ErrArg)
		refusedScript(t, api.Command{Kind: kind, Rule: rule.All(1, api.Log)}, api.ErrArg)
	}
}

func TestPrintScriptUnusedFields(t *testing.T) {
	sets := map[string][]func(c *api.Command){
		"Pos": {func(c *api.Command) { c.Pos = 1 }, func(c *api.Command) { c.Pos = -1 }},
		"Id":  {func(c *api.Command) { c.Id = 1 }, func(c *api.Command) { c.Id = math.MinInt }},
		"Rule": {
			func(c *api.Command) { c.Rule.Id = 1 }, func(c *api.Command) { c.Rule.Src.Addr = 1 }, func(c *api.Command) { c.Rule.Src.Len = 1 },
			func(c *api.Command) { c.Rule.Dst.Addr = 1 }, func(c *api.Command) { c.Rule.Dst.Len = 1 },
			func(c *api.Command) { c.Rule.Sport.Lo = 1 }, func(c *api.Command) { c.Rule.Sport.Hi = 1 },
			func(c *api.Command) { c.Rule.Dport.Lo = 1 }, func(c *api.Command) { c.Rule.Dport.Hi = 1 },
			func(c *api.Command) { c.Rule.Proto.Value = 1 }, func(c *api.Command) { c.Rule.Proto.Care = 1 },
			func(c *api.Command) { c.Rule.Action = 1 }, func(c *api.Command) { c.Rule = rule.All(1, api.Log) },
		},
		"Head": {
			func(c *api.Command) { c.Head.Src = 1 }, func(c *api.Command) { c.Head.Dst = 1 }, func(c *api.Command) { c.Head.Sport = 1 },
			func(c *api.Command) { c.Head.Dport = 1 }, func(c *api.Command) { c.Head.Proto = 1 },
		},
	}
	uses := map[api.CommandKind]string{api.CmdInsert: "Pos Rule", api.CmdDelete: "Id", api.CmdMove: "Id Pos", api.CmdAsk: "Head"}
	for _, command := range oneOfEach() {
		for name, list := range sets {
			if strings.Contains(uses[command.Kind], name) {
				continue
			}
			for _, set := range list {
				c := command
				set(&c)
				refusedScript(t, c, api.ErrArg)
			}
		}
	}
	bad := api.Command{Kind: api.CmdInsert, Id: 1} // its rule is wrong besides: ErrArg stands first
	refusedScript(t, bad, api.ErrArg)
	refusedScript(t, api.Command{Kind: api.CmdInsert, Head: api.Header{Proto: 1}}, api.ErrArg)
}

func TestPrintScriptNumbers(t *testing.T) {
	r := rule.All(1, api.Log)
	for _, n := range []int{-1, 4294967296, math.MaxInt, math.MinInt} {
		refusedScript(t, api.Command{Kind: api.CmdInsert, Pos: n, Rule: r}, api.ErrArg)
		refusedScript(t, api.Command{Kind: api.CmdInsert, Pos: n}, api.ErrArg)
		refusedScript(t, api.Command{Kind: api.CmdDelete, Id: n}, api.ErrArg)
		refusedScript(t, api.Command{Kind: api.CmdMove, Id: n}, api.ErrArg)
		refusedScript(t, api.Command{Kind: api.CmdMove, Pos: n}, api.ErrArg)
		refusedScript(t, api.Command{Kind: api.CmdMove, Id: n, Pos: n}, api.ErrArg)
	}
}

func TestPrintScriptFirstError(t *testing.T) {
	thin, none := api.Command{Kind: api.CmdThin}, api.Command{}
	wrong := api.Command{Kind: api.CmdInsert}
	for _, c := range []struct {
		list []api.Command
		want api.Errno
	}{
		{[]api.Command{thin, wrong, none}, api.ErrRuleId},
		{[]api.Command{thin, none, wrong}, api.ErrArg},
		{make([]api.Command, 1001), api.ErrLong},
		{make([]api.Command, 1000), api.ErrArg},
		{slices.Repeat([]api.Command{wrong}, 1001), api.ErrLong},
		{slices.Repeat([]api.Command{wrong}, 1000), api.ErrRuleId},
		{slices.Repeat([]api.Command{thin}, 1001), api.ErrLong},
		{append(slices.Repeat([]api.Command{thin}, 999), none), api.ErrArg},
	} {
		if got, code := syntax.PrintScript(c.list); got != "" || code != c.want {
			t.Errorf("PrintScript of %d: %q, %d, want %d", len(c.list), got, code, c.want)
		}
	}
}

func TestPrintScriptMany(t *testing.T) {
	for _, n := range []int{999, 1000} {
		got, code := syntax.PrintScript(slices.Repeat([]api.Command{{Kind: api.CmdThin}}, n))
		if got != strings.Repeat("thin\n", n) || code != api.OK {
			t.Errorf("%d commands: %d bytes, %d", n, len(got), code)
		}
	}
}

// scriptOf gives a script whose text has so many bytes, of commands that have 100 or fewer.
func scriptOf(t *testing.T, size int) []api.Command {
	r := api.Rule{Id: 999999, Src: api.Prefix{Addr: 0xfefefefe, Len: 31}, Dst: api.Prefix{Addr: 0xfefefefe, Len: 31},
		Sport: api.Span{Lo: 10000, Hi: 20000}, Dport: api.Span{Lo: 10000, Hi: 20000}, Proto: api.Mask{Value: 4, Care: 254}, Action: api.Deny}
	var list []api.Command
	left := size
	for left > 0 {
		c := api.Command{Kind: api.CmdInsert, Pos: 1, Rule: r}
		if left < 300 { // the rest: deletes of 9 to 18 bytes
			c = api.Command{Kind: api.CmdDelete, Id: 1}
			for id := 10; len(printCommand(c))+1 < min(left, 18) && left-len(printCommand(c))-1 != 9; id *= 10 {
				c.Id = id
			}
		}
		left -= len(printCommand(c)) + 1
		list = append(list, c)
	}
	if left != 0 {
		t.Fatalf("no script of %d bytes", size)
	}
	return list
}

func TestPrintScriptLength(t *testing.T) {
	for _, size := range []int{65535, 65536} {
		list := scriptOf(t, size)
		got, code := syntax.PrintScript(list)
		if len(got) != size || code != api.OK {
			t.Fatalf("a script of %d bytes: %d, %d", size, len(got), code)
		}
		if back, err := syntax.Script(got); err != nil || !slices.Equal(back, list) {
			t.Errorf("a script of %d bytes, read: %d commands, %v", size, len(back), err)
		}
	}
	for _, size := range []int{65537, 65600, 70000} {
		list := scriptOf(t, size)
		if got, code := syntax.PrintScript(list); got != "" || code != api.ErrLong {
			t.Errorf("a script of %d bytes: %d bytes, %d", size, len(got), code)
		}
		// what is wrong with a command comes ahead of that
		if got, code := syntax.PrintScript(append(list, api.Command{})); got != "" || code != api.ErrArg {
			t.Errorf("a script of %d bytes, and a command of no kind: %d bytes, %d", size, len(got), code)
		}
		if got, code := syntax.PrintScript(append(list, api.Command{Kind: api.CmdInsert})); got != "" || code != api.ErrRuleId {
			t.Errorf("a script of %d bytes, and a wrong rule: %d bytes, %d", size, len(got), code)
		}
	}
}

func TestPrintScriptDrawn(t *testing.T) {
	draw := drawer(13)
	for range 500 {
		list := drawCommands(draw, draw(30))
		var want strings.Builder
		for _, c := range list {
			want.WriteString(printCommand(c) + "\n")
		}
		if got, code := syntax.PrintScript(list); got != want.String() || code != api.OK {
			t.Fatalf("PrintScript(%v) = %q, %d, want %q", list, got, code, want.String())
		}
	}
}

// P10.5

func TestListsPrintedAndRead(t *testing.T) {
	draw := drawer(14)
	for range 300 {
		list := drawRules(draw, draw(65))
		text, code := syntax.PrintRules(list)
		back, err := syntax.Rules(text)
		if code != api.OK || err != nil || !slices.Equal(back, list) {
			t.Fatalf("%v, printed as %q, %d, read as %v, %v", list, text, code, back, err)
		}
		if again, code := syntax.PrintRules(back); again != text || code != api.OK {
			t.Fatalf("%q, printed once more: %q, %d", text, again, code)
		}
		script := drawCommands(draw, draw(60))
		text, code = syntax.PrintScript(script)
		scriptBack, err := syntax.Script(text)
		if code != api.OK || err != nil || !slices.Equal(scriptBack, script) {
			t.Fatalf("%v, printed as %q, %d, read as %v, %v", script, text, code, scriptBack, err)
		}
		if again, code := syntax.PrintScript(scriptBack); again != text || code != api.OK {
			t.Fatalf("%q, printed once more: %q, %d", text, again, code)
		}
	}
}

// loose gives a line's tokens with other blanks, a remark, and longer forms of what it says.
func loose(draw func(int) int, line string) string {
	parts := strings.Fields(line)
	var out strings.Builder
	for i, part := range parts {
		field := i - (len(parts) - 5) // of a rule's five
		if len(parts) < 7 {
			field = -1 // a command without a rule
		}
		if field >= 0 && draw(2) == 0 {
			switch {
			case part == "*":
				part = []string{"0.0.0.0/0", "0.0.0.0/0", "0:65535", "0:65535", "0/0"}[field]
			case field < 2 && !strings.Contains(part, "/"):
				part += "/32"
			case (field == 2 || field == 3) && !strings.Contains(part, ":"):
				part += ":" + part
			case field == 4 && !strings.Contains(part, "/"):
				part += "/255"
			}
		}
		if draw(4) == 0 {
			part = spread(part)
		}
		out.WriteString(part + []string{" ", "  ", "\t", " \t\r"}[draw(4)])
	}
	return out.String() + []string{"", "# x", "#"}[draw(3)] + []string{"\n", "\r\n", "\n\n", "\n # 1 deny\n"}[draw(4)]
}

// rulesReadAndPrinted holds a text of rules against what P10.5 says of it.
func rulesReadAndPrinted(t *testing.T, text string, want []api.Rule) {
	t.Helper()
	list, err := syntax.Rules(text)
	if err != nil || !slices.Equal(list, want) {
		t.Fatalf("Rules of %q: %v, %v, want %v", text, list, err, want)
	}
	printed, code := syntax.PrintRules(list)
	back, err := syntax.Rules(printed)
	if code != api.OK || err != nil || !slices.Equal(back, list) {
		t.Fatalf("%q, printed as %q, %d, read as %v, %v", text, printed, code, back, err)
	}
	for i := range len(text) {
		if text[i] != '\n' {
			continue
		}
		for _, front := range []string{text[:i], text[:i+1]} {
			part, err := syntax.Rules(front)
			if err != nil || len(part) != countLines(front) || !slices.Equal(part, list[:len(part)]) {
				t.Fatalf("%q, the beginning of %q: %v, %v", front, text, part, err)
			}
		}
	}
}

// scriptReadAndPrinted holds a script against the same.
func scriptReadAndPrinted(t *testing.T, text string, want []api.Command) {
	t.Helper()
	list, err := syntax.Script(text)
	if err != nil || !slices.Equal(list, want) {
		t.Fatalf("Script of %q: %v, %v, want %v", text, list, err, want)
	}
	printed, code := syntax.PrintScript(list)
	back, err := syntax.Script(printed)
	if code != api.OK || err != nil || !slices.Equal(back, list) {
		t.Fatalf("%q, printed as %q, %d, read as %v, %v", text, printed, code, back, err)
	}
	for i := range len(text) {
		if text[i] != '\n' {
			continue
		}
		for _, front := range []string{text[:i], text[:i+1]} {
			part, err := syntax.Script(front)
			if err != nil || len(part) != countLines(front) || !slices.Equal(part, list[:len(part)]) {
				t.Fatalf("%q, the beginning of %q: %v, %v", front, text, part, err)
			}
		}
	}
}

// countLines counts the lines that say something.
func countLines(text string) int {
	n := 0
	for line := range strings.SplitSeq(text, "\n") {
		says, _, _ := strings.Cut(line, "#")
		if strings.Trim(says, " \t\r") != "" {
			n++
		}
	}
	return n
}

func TestTextsReadAndPrinted(t *testing.T) {
	draw := drawer(15)
	for range 200 {
		rules := drawRules(draw, draw(8))
		var text strings.Builder
		for _, r := range rules {
			text.WriteString(loose(draw, printRule(r)))
		}
		rulesReadAndPrinted(t, text.String(), rules)
		script := drawCommands(draw, draw(8))
		text.Reset()
		for _, c := range script {
			text.WriteString(loose(draw, printCommand(c)))
		}
		scriptReadAndPrinted(t, text.String(), script)
	}
}

// R2 and R1

func TestFaultsAreNew(t *testing.T) {
	for _, text := range []string{"1 drop", "1 deny * * 9:8 * *", "?", strings.Repeat(" ", 65537)} {
		for name, read := range map[string]func(string) error{
			"Rules":  func(s string) error { _, err := syntax.Rules(s); return err },
			"Script": func(s string) error { _, err := syntax.Script(s); return err },
		} {
			var a, b *api.Fault
			if !errors.As(read(text), &a) || !errors.As(read(text), &b) || a == b || *a != *b {
				t.Fatalf("%s of %s: %v, %v", name, short(text), a, b)
			}
			want := *b
			*a = api.Fault{Code: 7, Line: 7, Col: 7}
			var c *api.Fault
			if !errors.As(read(text), &c) || *b != want || *c != want {
				t.Errorf("%s of %s, written into: %v, %v", name, short(text), b, c)
			}
		}
	}
}

func TestListsAreNew(t *testing.T) {
	text := rulesText(3)
	a, _ := syntax.Rules(text)
	a = append(a, api.Rule{Id: 9})
	a[0].Id = 8
	b, err := syntax.Rules(text)
	if err != nil || !slices.Equal(b, rulesList(3)) || a[0].Id != 8 || a[3].Id != 9 {
		t.Errorf("Rules after an answer was written into: %v, %v; %v", b, err, a)
	}
	c, _ := syntax.Script("map\nthin\n")
	c[0].Kind = api.CmdDump
	if d, err := syntax.Script("map\nthin\n"); err != nil || d[0].Kind != api.CmdMap || c[0].Kind != api.CmdDump {
		t.Errorf("Script after an answer was written into: %v, %v; %v", d, err, c)
	}
}

func TestHandedInStays(t *testing.T) {
	rules := rulesList(70)
	commands := slices.Repeat(oneOfEach(), 101)
	wrong, _ := wrongRules()
	rules[66], commands[1002].Rule = wrong[3], wrong[4]
	keptRules, keptCommands := slices.Clone(rules), slices.Clone(commands)
	for _, n := range []int{0, 1, 5, 63, 64, 65, 67} {
		syntax.PrintRules(rules[:n])
	}
	syntax.PrintRules(rules[60:70])
	for _, n := range []int{0, 1, 10, 999, 1000, 1001, 1003} {
		syntax.PrintScript(commands[:n])
	}
	syntax.PrintScript(commands[995:1005])
	if !slices.Equal(rules, keptRules) || !slices.Equal(commands, keptCommands) {
		t.Error("a list that was handed in is another one")
	}
}

func TestExamples(t *testing.T) {
	web := api.Rule{Id: 7, Src: api.Prefix{Addr: 0x0a000000, Len: 8}, Sport: allPorts, Dport: api.Span{Lo: 80, Hi: 81},
		Proto: api.Mask{Value: 6, Care: 255}, Action: api.Permit}
	line := "7 permit 10.0.0.0/8 * * 80:81 6"
	if got, err := syntax.Rules(line); err != nil || !slices.Equal(got, []api.Rule{web}) {
		t.Errorf("%v, %v", got, err)
	}
	if got, code := syntax.Print(web); got != line || code != api.OK {
		t.Errorf("%q, %d", got, code)
	}
	list, err := syntax.Rules("1 deny 1.2.3.4/32 0.0.0.0/0 0:65535 80:80 6/255")
	if err != nil || len(list) != 1 {
		t.Fatalf("%v, %v", list, err)
	}
	if got, code := syntax.Print(list[0]); got != "1 deny 1.2.3.4 * * 80 6" || code != api.OK {
		t.Errorf("%q, %d", got, code)
	}
	for _, text := range []string{"", "#", "\n\n"} {
		if got, err := syntax.Rules(text); len(got) != 0 || err != nil {
			t.Errorf("%q: %v, %v", text, got, err)
		}
	}
	refusedAsRules(t, []refused{
		{"1 drop", api.ErrSyntaxTok, 1, 3},
		{"1 deny *", api.ErrSyntaxTok, 1, 9},
		{"1 deny 1.2.3.256", api.ErrSyntaxValue, 1, 14},
		{"1 deny 10.0.0.1/8 * * * *", api.ErrPrefixBits, 1, 8},
		{"0 deny * * * 3:2 *", api.ErrRuleId, 1, 1},
		{"1 deny * * 9:8 * *", api.ErrSpanEnds, 1, 12},
		{"1 deny * * * * 1/254", api.ErrMaskBits, 1, 16},
		{"1 log * * * * *\n1 log * * * * *", api.ErrSyntaxTwice, 2, 1},
		{"1 deny * * 9:8 * * *", api.ErrSyntaxTok, 1, 20},
	})
	script, err := syntax.Script("insert 0 1 log * * * * *\nask 10.0.0.1 1.2.3.4 5 80 6\nthin")
	h := api.Header{Src: 0x0a000001, Dst: 0x01020304, Sport: 5, Dport: 80, Proto: 6}
	want := []api.Command{{Kind: api.CmdInsert, Rule: rule.All(1, api.Log)}, {Kind: api.CmdAsk, Head: h}, {Kind: api.CmdThin}}
	if err != nil || !slices.Equal(script, want) {
		t.Errorf("%v, %v", script, err)
	}
	refusedAsScript(t, []refused{
		{"thin 1", api.ErrSyntaxTok, 1, 6},
		{"delete", api.ErrSyntaxTok, 1, 7},
		{"ask 1.2.3.4/32", api.ErrSyntaxTok, 1, 12},
	})
	if got := syntax.PrintHeader(h); got != "10.0.0.1 1.2.3.4 5 80 6" {
		t.Errorf("%q", got)
	}
	for _, c := range []api.Command{{Kind: api.CmdDelete, Pos: 1}, {Kind: api.CmdMove, Id: -1}} {
		if got, code := syntax.PrintScript([]api.Command{c}); got != "" || code != api.ErrArg {
			t.Errorf("%v: %q, %d", c, got, code)
		}
	}
}
