package syntax

import (
	"math"
	"strconv"
	"strings"

	"quintet/api"
	"quintet/rule"
)

// checkCommand tells what is wrong with a command that is to be printed. A Pos
// or an Id that its kind does not use is 0 by then, which is a number that may be.
func checkCommand(c api.Command) api.Errno {
	if c.Kind < api.CmdInsert || c.Kind > api.CmdMap {
		return api.ErrArg
	}
	if withoutUsed(c) != (api.Command{Kind: c.Kind}) || !isNumber(c.Pos) || !isNumber(c.Id) {
		return api.ErrArg
	}
	if c.Kind != api.CmdInsert {
		return api.OK
	}
	code, _ := rule.Check(c.Rule)
	return code
}

// withoutUsed gives the command with noughts in the fields that its kind uses.
func withoutUsed(c api.Command) api.Command {
	switch c.Kind {
	case api.CmdInsert:
		c.Pos, c.Rule = 0, api.Rule{}
	case api.CmdDelete:
		c.Id = 0
	case api.CmdMove:
		c.Id, c.Pos = 0, 0
	case api.CmdAsk:
		c.Head = api.Header{}
	}
	return c
}

// isNumber tells whether a text may have the number. (Those below 0 are far above as unsigned ones.)
func isNumber(n int) bool { return uint64(n) <= math.MaxUint32 }

// commandText gives the COMMAND of one that may be.
func commandText(c api.Command) string {
	word := commandWords[c.Kind]
	switch c.Kind {
	case api.CmdInsert:
		return withBlanks(word, strconv.Itoa(c.Pos), ruleText(c.Rule))
	case api.CmdDelete:
		return withBlanks(word, strconv.Itoa(c.Id))
	case api.CmdMove:
		return withBlanks(word, strconv.Itoa(c.Id), strconv.Itoa(c.Pos))
	case api.CmdAsk:
		return withBlanks(word, headerText(c.Head))
	}
	return word
}

// ruleText gives the RULE of one that may be.
func ruleText(r api.Rule) string {
	return withBlanks(strconv.Itoa(r.Id), actionWords[r.Action],
		prefixText(r.Src), prefixText(r.Dst), spanText(r.Sport), spanText(r.Dport), maskText(r.Proto))
}

// headerText gives the header's five numbers.
func headerText(h api.Header) string {
	return withBlanks(addressText(h.Src), addressText(h.Dst),
		strconv.Itoa(int(h.Sport)), strconv.Itoa(int(h.Dport)), strconv.Itoa(int(h.Proto)))
}

// withBlanks gives the parts with one blank between each two.
func withBlanks(parts ...string) string { return strings.Join(parts, " ") }

// prefixText gives the PREFIX.
func prefixText(p api.Prefix) string {
	switch p.Len {
	case 0:
		return "*"
	case 32:
		return addressText(p.Addr)
	}
	return addressText(p.Addr) + "/" + strconv.Itoa(p.Len)
}

// addressText gives the ADDRESS.
func addressText(addr uint32) string {
	parts := make([]string, 4)
	for i := range parts {
		parts[i] = strconv.Itoa(int(addr >> (24 - 8*i) & math.MaxUint8))
	}
	return strings.Join(parts, ".")
}

// spanText gives the SPAN.
func spanText(s api.Span) string {
	if s.Lo == 0 && s.Hi == math.MaxUint16 {
		return "*"
	}
	if s.Lo == s.Hi {
		return strconv.Itoa(int(s.Lo))
	}
	return strconv.Itoa(int(s.Lo)) + ":" + strconv.Itoa(int(s.Hi))
}

// maskText gives the MASK.
func maskText(m api.Mask) string {
	switch m.Care {
	case 0:
		return "*"
	case math.MaxUint8:
		return strconv.Itoa(int(m.Value))
	}
	return strconv.Itoa(int(m.Value)) + "/" + strconv.Itoa(int(m.Care))
}
