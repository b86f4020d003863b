package syntax

import (
	"errors"
	"math"

	"quintet/api"
	"quintet/lex"
	"quintet/rule"
)

// reader goes through a text's tokens. A line's end is taken by whoever has read
// the line, so that there is always a next token while a line is being read.
type reader struct {
	toks []api.Tok
	at   int
}

// starts are the tokens with which a rule's fields begin, at the numbers that
// rule.Check has for the fields.
type starts [8]api.Tok

// readLines lets each line that says something be read by line, up to the first
// thing that is wrong, and gives that. Whatever is wrong, however deep inside,
// is panicked with as a Fault.
func readLines(text string, line func(*reader)) (err error) {
	defer func() {
		if bad := recover(); bad != nil {
			err = bad.(*api.Fault) // another panic than giveUp's is no text's fault: it goes on
		}
	}()
	r := &reader{toks: tokensOf(text)}
	for r.at < len(r.toks) {
		if r.next().Kind == api.TokEnd {
			r.at++
		} else {
			line(r)
		}
	}
	return nil
}

// tokensOf gives lex's tokens, or gives up with lex's Fault.
func tokensOf(text string) []api.Tok {
	toks, err := lex.All(text)
	var bad *api.Fault
	if errors.As(err, &bad) {
		panic(bad)
	}
	return toks
}

// giveUp ends the reading of the text: something is wrong at the token.
func giveUp(code api.Errno, tok api.Tok) {
	panic(&api.Fault{Code: code, Line: tok.Line, Col: tok.Col})
}

// ruleLine reads a line that is a RULE, behind the rules ahead.
func (r *reader) ruleLine(ahead []api.Rule) api.Rule {
	first := r.next()
	got, begin := r.rule()
	r.end()
	if len(ahead) == api.MaxRules {
		giveUp(api.ErrSyntaxMany, first)
	}
	checkRule(got, begin)
	if hasId(ahead, got.Id) {
		giveUp(api.ErrSyntaxTwice, first)
	}
	return got
}

// commandLine reads a line that is a COMMAND, behind so many ahead.
func (r *reader) commandLine(ahead int) api.Command {
	first := r.next()
	got, begin := r.command()
	r.end()
	if ahead == api.MaxCommands {
		giveUp(api.ErrSyntaxMany, first)
	}
	if got.Kind == api.CmdInsert {
		checkRule(got.Rule, begin)
	}
	return got
}

// checkRule gives up if the rule may not be.
func checkRule(got api.Rule, begin starts) {
	if code, field := rule.Check(got); code != api.OK {
		giveUp(code, begin[field])
	}
}

// command takes a COMMAND; the starts are those of an insert's rule.
func (r *reader) command() (api.Command, starts) {
	got := api.Command{Kind: r.commandKind()}
	var begin starts
	switch got.Kind {
	case api.CmdInsert:
		got.Pos = r.anyNumber()
		got.Rule, begin = r.rule()
	case api.CmdDelete:
		got.Id = r.anyNumber()
	case api.CmdMove:
		got.Id = r.anyNumber()
		got.Pos = r.anyNumber()
	case api.CmdAsk:
		got.Head = r.header()
	}
	return got, begin
}

// rule takes a RULE, and tells with which tokens its fields begin.
func (r *reader) rule() (api.Rule, starts) {
	var got api.Rule
	var begin starts
	begin[1] = r.next()
	got.Id = r.anyNumber()
	begin[7] = r.next()
	got.Action = r.action()
	begin[2] = r.next()
	got.Src = r.prefix()
	begin[3] = r.next()
	got.Dst = r.prefix()
	begin[4] = r.next()
	got.Sport = r.span()
	begin[5] = r.next()
	got.Dport = r.span()
	begin[6] = r.next()
	got.Proto = r.mask()
	return got, begin
}

// header takes what an ask asks for.
func (r *reader) header() api.Header {
	var got api.Header
	got.Src = r.address()
	got.Dst = r.address()
	got.Sport = r.port()
	got.Dport = r.port()
	got.Proto = r.proto()
	return got
}

// commandKind takes a command's word.
func (r *reader) commandKind() api.CommandKind {
	tok := r.next()
	got := commandOf(tok.Text)
	if got == 0 {
		giveUp(api.ErrSyntaxTok, tok)
	}
	r.at++
	return got
}

// action takes an ACTION.
func (r *reader) action() api.Action {
	tok := r.next()
	got := actionOf(tok.Text)
	if got == 0 {
		giveUp(api.ErrSyntaxTok, tok)
	}
	r.at++
	return got
}

// prefix takes a PREFIX.
func (r *reader) prefix() api.Prefix {
	if r.sign("*") {
		return api.Prefix{}
	}
	addr := r.address()
	if r.sign("/") {
		return api.Prefix{Addr: addr, Len: int(r.number(32))}
	}
	return api.Prefix{Addr: addr, Len: 32}
}

// address takes an ADDRESS.
func (r *reader) address() uint32 {
	addr := r.number(math.MaxUint8)
	for range 3 {
		if !r.sign(".") {
			giveUp(api.ErrSyntaxTok, r.next())
		}
		addr = addr<<8 | r.number(math.MaxUint8)
	}
	return addr
}

// span takes a SPAN.
func (r *reader) span() api.Span {
	if r.sign("*") {
		return api.Span{Hi: math.MaxUint16}
	}
	low := r.port()
	if r.sign(":") {
		return api.Span{Lo: low, Hi: r.port()}
	}
	return api.Span{Lo: low, Hi: low}
}

// mask takes a MASK.
func (r *reader) mask() api.Mask {
	if r.sign("*") {
		return api.Mask{}
	}
	value := r.proto()
	if r.sign("/") {
		return api.Mask{Value: value, Care: r.proto()}
	}
	return api.Mask{Value: value, Care: math.MaxUint8}
}

// port takes a PORT.
func (r *reader) port() uint16 { return uint16(r.number(math.MaxUint16)) }

// proto takes a PROTO.
func (r *reader) proto() uint8 { return uint8(r.number(math.MaxUint8)) }

// anyNumber takes an ID or a POS.
func (r *reader) anyNumber() int { return int(r.number(math.MaxUint32)) }

// number takes a number that is not above most.
func (r *reader) number(most uint32) uint32 {
	tok := r.next()
	if tok.Kind != api.TokNumber {
		giveUp(api.ErrSyntaxTok, tok)
	}
	if tok.Value > most {
		giveUp(api.ErrSyntaxValue, tok)
	}
	r.at++
	return tok.Value
}

// sign takes the sign, if it is the next token, and tells whether it was.
func (r *reader) sign(text string) bool {
	if r.next().Text != text {
		return false
	}
	r.at++
	return true
}

// end takes the line's end.
func (r *reader) end() {
	tok := r.next()
	if tok.Kind != api.TokEnd {
		giveUp(api.ErrSyntaxTok, tok)
	}
	r.at++
}

// next gives the token that is to be taken next.
func (r *reader) next() api.Tok { return r.toks[r.at] }
