package lex_test

import (
	"errors"
	"fmt"
	"math"
	"math/big"
	"regexp"
	"slices"
	"strings"
	"testing"

	"quintet/api"
	"quintet/lex"
)

// piece is the model's view of a line: whatever may stand at its front.
var piece = regexp.MustCompile(`^(?:([a-z]+)|([0-9]+)|([./:*])|([ \t\r]+)|(#.*))`)

// model is P9.1 by other means: lines by splitting, pieces by a pattern, numbers
// by big ones. It gives the tokens ahead of what is wrong, and that (or noughts).
func model(text string) ([]api.Tok, api.Fault) {
	if len(text) > 65536 {
		return nil, api.Fault{Code: api.ErrLong}
	}
	var list []api.Tok
	for i, row := range strings.SplitAfter(text, "\n") {
		if row == "" {
			continue // the empty text, or what is behind a last byte 10
		}
		body, end := strings.CutSuffix(row, "\n")
		if len(body) > 200 {
			return list, api.Fault{Code: api.ErrLexLine, Line: i + 1, Col: 1}
		}
		toks, code, at := modelLine(body)
		for _, tok := range toks {
			tok.Line = i + 1
			list = append(list, tok)
		}
		if code != api.OK {
			return list, api.Fault{Code: code, Line: i + 1, Col: at + 1}
		}
		last := api.Tok{Kind: api.TokEnd, Line: i + 1, Col: len(body) + 1}
		if end {
			last.Text = "\n"
		}
		list = append(list, last)
	}
	return list, api.Fault{}
}

// modelLine gives a line's tokens without their line, or what is wrong and at which byte.
func modelLine(body string) (list []api.Tok, code api.Errno, at int) {
	for at < len(body) {
		parts := piece.FindStringSubmatch(body[at:])
		if parts == nil {
			return list, api.ErrLexByte, at
		}
		tok := api.Tok{Text: parts[0], Col: at + 1}
		switch {
		case parts[1] != "":
			tok.Kind = api.TokWord
			if len(parts[1]) > 16 {
				return list, api.ErrLexWord, at
			}
		case parts[2] != "":
			n, _ := new(big.Int).SetString(parts[2], 10)
			if n.String() != parts[2] || n.BitLen() > 32 {
				return list, api.ErrLexNumber, at
			}
			tok.Kind, tok.Value = api.TokNumber, uint32(n.Uint64())
		case parts[3] != "":
			tok.Kind = api.TokSign
		}
		if tok.Kind != 0 {
			list = append(list, tok)
		}
		at += len(parts[0])
	}
	return list, api.OK, 0
}

// faultOf gives what an error tells, and holds that it is nil or a Fault that is
// found by both of the library's ways.
func faultOf(t *testing.T, err error) api.Fault {
	t.Helper()
	if err == nil {
		return api.Fault{}
	}
	var bad *api.Fault
	if !errors.As(err, &bad) || bad == nil {
		t.Fatalf("%v (%T) is no Fault", err, err)
	}
	if bad.Code == api.OK || !errors.Is(err, bad.Code) {
		t.Fatalf("%v: errors.Is does not find %d", err, bad.Code)
	}
	return *bad
}

// short is a text as a test tells it.
func short(text string) string {
	if len(text) > 120 {
		return fmt.Sprintf("%q.. (%d bytes)", text[:120], len(text))
	}
	return fmt.Sprintf("%q", text)
}

// hold holds All against the list and the Fault that are asked for.
func hold(t *testing.T, text string, want []api.Tok, bad api.Fault) {
	t.Helper()
	list, err := lex.All(text)
	if got := faultOf(t, err); got != bad {
		t.Errorf("All(%s): fault %+v, wanted %+v", short(text), got, bad)
		return
	}
	if err != nil {
		want = nil
	}
	if !slices.Equal(list, want) {
		t.Errorf("All(%s): %+v, wanted %+v", short(text), list, want)
	}
}

// drain gives what a scanner gives up to its end, and the Fault there.
func drain(t *testing.T, s *lex.Scanner) ([]api.Tok, api.Fault) {
	t.Helper()
	var list []api.Tok
	for {
		tok, ok, err := s.Next()
		if !ok {
			if tok != (api.Tok{}) {
				t.Errorf("a token beside false: %+v", tok)
			}
			return list, faultOf(t, err)
		}
		if err != nil {
			t.Errorf("an error beside a token: %v", err)
		}
		list = append(list, tok)
	}
}

// holdBoth holds All and a scanner against the model.
func holdBoth(t *testing.T, text string) {
	t.Helper()
	want, bad := model(text)
	hold(t, text, want, bad)
	s := lex.New(text)
	for range 2 {
		list, got := drain(t, s)
		if !slices.Equal(list, want) || got != bad {
			t.Errorf("New(%s): %+v, %+v, wanted %+v, %+v", short(text), list, got, want, bad)
		}
		if e := s.Back(len(want) + 1); e != api.ErrArg {
			t.Errorf("New(%s): one too many back: %d", short(text), e)
		}
		if e := s.Back(len(want)); e != api.OK {
			t.Errorf("New(%s): all back: %d", short(text), e)
		}
	}
}

func word(text string, line, col int) api.Tok {
	return api.Tok{Kind: api.TokWord, Text: text, Line: line, Col: col}
}

func number(text string, value uint32, line, col int) api.Tok {
	return api.Tok{Kind: api.TokNumber, Text: text, Value: value, Line: line, Col: col}
}

func sign(text string, line, col int) api.Tok {
	return api.Tok{Kind: api.TokSign, Text: text, Line: line, Col: col}
}

func end(line, col int) api.Tok {
	return api.Tok{Kind: api.TokEnd, Text: "\n", Line: line, Col: col}
}

func stop(line, col int) api.Tok { return api.Tok{Kind: api.TokEnd, Line: line, Col: col} }

func fault(code api.Errno, line, col int) api.Fault {
	return api.Fault{Code: code, Line: line, Col: col}
}

// drawer gives numbers from 0 to n - 1, the same ones each time.
func drawer(seed uint64) func(n int) int {
	state := seed
	return func(n int) int {
		state = state*6364136223846793005 + 1442695040888963407
		return int(state >> 33 % uint64(n))
	}
}

// P9.1: lines and their ends.
func TestLines(t *testing.T) {
	for _, c := range []struct {
		text string
		want []api.Tok
	}{
		{"", nil},
		{"\n", []api.Tok{end(1, 1)}},
		{"\n\n", []api.Tok{end(1, 1), end(2, 1)}},
		{"\n\n\n", []api.Tok{end(1, 1), end(2, 1), end(3, 1)}},
		{"a", []api.Tok{word("a", 1, 1), stop(1, 2)}},
		{"a\n", []api.Tok{word("a", 1, 1), end(1, 2)}},
		{"a\n\n", []api.Tok{word("a", 1, 1), end(1, 2), end(2, 1)}},
		{"\na", []api.Tok{end(1, 1), word("a", 2, 1), stop(2, 2)}},
		{"a\nb", []api.Tok{word("a", 1, 1), end(1, 2), word("b", 2, 1), stop(2, 2)}},
		{"a\n\nb\n", []api.Tok{word("a", 1, 1), end(1, 2), end(2, 1), word("b", 3, 1), end(3, 2)}},
		{"a \nb", []api.Tok{word("a", 1, 1), end(1, 3), word("b", 2, 1), stop(2, 2)}},
		{"a ", []api.Tok{word("a", 1, 1), stop(1, 3)}},
		{" ", []api.Tok{stop(1, 2)}},
		{" \n ", []api.Tok{end(1, 2), stop(2, 2)}},
	} {
		hold(t, c.text, c.want, api.Fault{})
		holdBoth(t, c.text)
	}
}

// P9.1: blanks and remarks say nothing, but take columns.
func TestBlanks(t *testing.T) {
	for _, c := range []struct {
		text string
		want []api.Tok
	}{
		{"a b", []api.Tok{word("a", 1, 1), word("b", 1, 3), stop(1, 4)}},
		{"a\tb", []api.Tok{word("a", 1, 1), word("b", 1, 3), stop(1, 4)}},
		{"a\rb", []api.Tok{word("a", 1, 1), word("b", 1, 3), stop(1, 4)}},
		{"1 \t\r2", []api.Tok{number("1", 1, 1, 1), number("2", 2, 1, 5), stop(1, 6)}},
		{"a\r\nb\r\n", []api.Tok{word("a", 1, 1), end(1, 3), word("b", 2, 1), end(2, 3)}},
		{"\r", []api.Tok{stop(1, 2)}},
		{"\t.", []api.Tok{sign(".", 1, 2), stop(1, 3)}},
		{"#", []api.Tok{stop(1, 2)}},
		{"#\n", []api.Tok{end(1, 2)}},
		{"##", []api.Tok{stop(1, 3)}},
		{"# a 07 ?\nb", []api.Tok{end(1, 9), word("b", 2, 1), stop(2, 2)}},
		{"a# b", []api.Tok{word("a", 1, 1), stop(1, 5)}},
		{"7#7", []api.Tok{number("7", 7, 1, 1), stop(1, 4)}},
		{":#\n#:", []api.Tok{sign(":", 1, 1), end(1, 3), stop(2, 3)}},
		{"a # b # c\n", []api.Tok{word("a", 1, 1), end(1, 10)}},
		{" # \r\n", []api.Tok{end(1, 5)}},
	} {
		hold(t, c.text, c.want, api.Fault{})
		holdBoth(t, c.text)
	}
}

// P9.1: words, numbers and signs are longest rows.
func TestTokens(t *testing.T) {
	const letters = "abcdefghijklmnopqrstuvwxyz"
	for i := range 26 {
		c := letters[i : i+1]
		hold(t, c, []api.Tok{word(c, 1, 1), stop(1, 2)}, api.Fault{})
		hold(t, "a"+c+"9", []api.Tok{word("a"+c, 1, 1), number("9", 9, 1, 3), stop(1, 4)}, api.Fault{})
	}
	for i := range uint32(10) {
		c := fmt.Sprint(i)
		hold(t, c, []api.Tok{number(c, i, 1, 1), stop(1, 2)}, api.Fault{})
		hold(t, "1"+c+"z", []api.Tok{number("1"+c, 10+i, 1, 1), word("z", 1, 3), stop(1, 4)}, api.Fault{})
	}
	for _, c := range []string{".", "/", ":", "*"} {
		hold(t, c, []api.Tok{sign(c, 1, 1), stop(1, 2)}, api.Fault{})
		hold(t, c+c, []api.Tok{sign(c, 1, 1), sign(c, 1, 2), stop(1, 3)}, api.Fault{})
		hold(t, "a"+c+"1", []api.Tok{word("a", 1, 1), sign(c, 1, 2), number("1", 1, 1, 3), stop(1, 4)}, api.Fault{})
	}
	hold(t, "a1b22c", []api.Tok{word("a", 1, 1), number("1", 1, 1, 2), word("b", 1, 3), number("22", 22, 1, 4), word("c", 1, 6), stop(1, 7)}, api.Fault{})
	hold(t, "*.:/\n", []api.Tok{sign("*", 1, 1), sign(".", 1, 2), sign(":", 1, 3), sign("/", 1, 4), end(1, 5)}, api.Fault{})
}

// P9.1: a word of 16 letters is the longest one.
func TestWordLength(t *testing.T) {
	for n := range 40 {
		w := strings.Repeat("q", n+1)
		if n+1 <= 16 {
			hold(t, w, []api.Tok{word(w, 1, 1), stop(1, n+2)}, api.Fault{})
			hold(t, " "+w+"0\n", []api.Tok{word(w, 1, 2), number("0", 0, 1, n+3), end(1, n+4)}, api.Fault{})
		} else {
			hold(t, w, nil, fault(api.ErrLexWord, 1, 1))
			hold(t, "\n7"+w+"?", nil, fault(api.ErrLexWord, 2, 2))
		}
		hold(t, "#"+w, []api.Tok{stop(1, n+3)}, api.Fault{})
	}
	for n := 15; n <= 17; n++ {
		holdBoth(t, "a "+strings.Repeat("z", n)+" "+strings.Repeat("y", n))
	}
}

// P9.1: a number's value, and which numbers are none.
func TestNumbers(t *testing.T) {
	for text, value := range map[string]uint32{
		"0": 0, "1": 1, "9": 9, "10": 10, "100": 100, "255": 255, "256": 256, "65535": 65535, "65536": 65536,
		"999999999": 999999999, "1000000000": 1000000000, "2147483647": math.MaxInt32, "2147483648": math.MaxInt32 + 1,
		"4294967294": math.MaxUint32 - 1, "4294967295": math.MaxUint32,
	} {
		hold(t, text, []api.Tok{number(text, value, 1, 1), stop(1, len(text)+1)}, api.Fault{})
		hold(t, "a"+text+".\n", []api.Tok{word("a", 1, 1), number(text, value, 1, 2), sign(".", 1, len(text)+2), end(1, len(text)+3)}, api.Fault{})
	}
	for _, text := range []string{
		"00", "01", "07", "08", "000", "010", "0000000000000000000000001", "04294967295",
		"4294967296", "4294967297", "4294967300", "5000000000", "9999999999", "10000000000", "42949672950",
		"18446744073709551615", "18446744073709551616", "18446744073709551617", "340282366920938463463374607431768211456",
		"6442450944", "8589934592", "4294967296000000000",
		strings.Repeat("0", 200), strings.Repeat("9", 200), "1" + strings.Repeat("0", 199),
	} {
		hold(t, text, nil, fault(api.ErrLexNumber, 1, 1))
		holdBoth(t, text)
		if len(text) < 200 {
			hold(t, "\n:"+text, nil, fault(api.ErrLexNumber, 2, 2))
			hold(t, "#"+text, []api.Tok{stop(1, len(text)+2)}, api.Fault{})
		}
	}
	for n := 1; n <= 200; n++ {
		holdBoth(t, strings.Repeat("1", n))
		holdBoth(t, "4294967295"+strings.Repeat("x", n%17)+strings.Repeat("0", n%3))
	}
	hold(t, "0 0", []api.Tok{number("0", 0, 1, 1), number("0", 0, 1, 3), stop(1, 4)}, api.Fault{})
	hold(t, "0a0", []api.Tok{number("0", 0, 1, 1), word("a", 1, 2), number("0", 0, 1, 3), stop(1, 4)}, api.Fault{})
}

// P9.1: each byte alone, behind a token, ahead of one, and in a remark.
func TestBytes(t *testing.T) {
	const known = "abcdefghijklmnopqrstuvwxyz0123456789./:* \t\r\n#"
	for i := range 256 {
		c := string([]byte{byte(i)})
		if strings.Contains(known, c) {
			if _, err := lex.All(c); err != nil {
				t.Errorf("byte %d is refused: %v", i, err)
			}
		} else {
			hold(t, c, nil, fault(api.ErrLexByte, 1, 1))
			hold(t, "a"+c, nil, fault(api.ErrLexByte, 1, 2))
			hold(t, "1"+c+"2", nil, fault(api.ErrLexByte, 1, 2))
			hold(t, "a\n\t"+c, nil, fault(api.ErrLexByte, 2, 2))
			hold(t, "#"+c, []api.Tok{stop(1, 3)}, api.Fault{})
			hold(t, "a# "+c+"\n", []api.Tok{word("a", 1, 1), end(1, 5)}, api.Fault{})
			hold(t, "#\n"+c, nil, fault(api.ErrLexByte, 2, 1))
		}
		for _, text := range []string{c, c + c, "a" + c, c + "a", "1" + c + "2", "." + c, "#" + c, " " + c + "\n" + c} {
			holdBoth(t, text)
		}
	}
	hold(t, "Rule", nil, fault(api.ErrLexByte, 1, 1))
	hold(t, "ruLe", nil, fault(api.ErrLexByte, 1, 3))
	hold(t, "a é", nil, fault(api.ErrLexByte, 1, 3))
	hold(t, "# é\né", nil, fault(api.ErrLexByte, 2, 1))
	hold(t, "# é\n", []api.Tok{end(1, 5)}, api.Fault{})
}

// P9.1: a line of 200 bytes is the longest one, whatever it is made of.
func TestLineLength(t *testing.T) {
	for _, c := range []string{"a ", "1.", ".", " ", "\t", "\r", "#", "# ?", "#\x00", "07", "?", "A"} {
		for _, n := range []int{0, 1, 198, 199, 200, 201, 202, 400, 1000} {
			row := strings.Repeat(c, n)[:n]
			for _, text := range []string{row, row + "\n", "a\n" + row, "a\n" + row + "\n", row + "\na", "?\n" + row, row + "\n?", row + "\n" + row} {
				holdBoth(t, text)
			}
			if n > 200 {
				hold(t, row, nil, fault(api.ErrLexLine, 1, 1))
				hold(t, "a\n\n"+row+"\n", nil, fault(api.ErrLexLine, 3, 1))
			}
		}
	}
	dots := strings.Repeat(".", 200)
	for _, text := range []string{dots, dots + "\n", strings.Repeat(" ", 200), "#" + strings.Repeat("?", 199) + "\n", dots[:199] + "\n" + dots} {
		if _, err := lex.All(text); err != nil {
			t.Errorf("%s: %v", short(text), err)
		}
	}
}

// P9.1: of several things that are wrong the first one is told.
func TestFirstFault(t *testing.T) {
	wrong := map[string]api.Errno{"?": api.ErrLexByte, "07": api.ErrLexNumber, "4294967296": api.ErrLexNumber, strings.Repeat("w", 17): api.ErrLexWord}
	long := strings.Repeat("x.", 101)
	for a, code := range wrong {
		for b, other := range wrong {
			hold(t, "a "+a+" "+b, nil, fault(code, 1, 3))
			hold(t, "a\nbc "+a+"\n"+b, nil, fault(code, 2, 4))
			hold(t, "# "+a+"\n "+b, nil, fault(other, 2, 2))
			hold(t, a+"#"+b, nil, fault(code, 1, 1))
		}
		hold(t, a+"\n"+long, nil, fault(code, 1, 1))
		hold(t, long+"\n"+a, nil, fault(api.ErrLexLine, 1, 1))
		hold(t, "a\n"+a+long, nil, fault(api.ErrLexLine, 2, 1))
		hold(t, "a\n"+long+a+"\n", nil, fault(api.ErrLexLine, 2, 1))
	}
	hold(t, "07?", nil, fault(api.ErrLexNumber, 1, 1))
	hold(t, "?07", nil, fault(api.ErrLexByte, 1, 1))
	hold(t, strings.Repeat("w", 17)+"07", nil, fault(api.ErrLexWord, 1, 1))
	hold(t, "07"+strings.Repeat("w", 17), nil, fault(api.ErrLexNumber, 1, 1))
}

// P9.1: a text of 65536 bytes is the longest one, and that comes first.
func TestTextLength(t *testing.T) {
	for _, row := range []string{"\n", "a\n", "1.2\n", strings.Repeat("#", 200) + "\n", "ab 12 # x\n", "a\n\n?\n", "a", " "} {
		for _, n := range []int{65534, 65535, 65536, 65537, 65538, 131072} {
			text := strings.Repeat(row, n/len(row)+1)[:n]
			holdBoth(t, text)
			if n > 65536 {
				hold(t, text, nil, api.Fault{Code: api.ErrLong})
			}
		}
	}
	full := strings.Repeat("a\n", 32768)
	if list, err := lex.All(full); err != nil || len(list) != 65536 || list[65535] != end(32768, 2) {
		t.Errorf("65536 bytes: %d tokens, %v", len(list), err)
	}
	hold(t, full+"?", nil, api.Fault{Code: api.ErrLong})
	hold(t, "?"+full, nil, api.Fault{Code: api.ErrLong})
	hold(t, full[:65535]+"?", nil, fault(api.ErrLexByte, 32768, 2))
	hold(t, strings.Repeat("x", 65536), nil, fault(api.ErrLexLine, 1, 1))
	hold(t, strings.Repeat("x", 65537), nil, api.Fault{Code: api.ErrLong})
}

// P9.2
func TestNextAtTheEnd(t *testing.T) {
	for _, text := range []string{"", "\n", "a", "a 1\n", "#"} {
		s := lex.New(text)
		drain(t, s)
		for range 5 {
			if tok, ok, err := s.Next(); tok != (api.Tok{}) || ok || err != nil {
				t.Errorf("%q: behind the end: %+v, %v, %v", text, tok, ok, err)
			}
		}
	}
}

// P9.2: a Fault comes behind the tokens ahead of it, and stays; too long a text gives none.
func TestNextAtAFault(t *testing.T) {
	for text, c := range map[string]struct {
		ahead int
		bad   api.Fault
	}{
		"?":                                  {0, fault(api.ErrLexByte, 1, 1)},
		"a 1 ?":                              {2, fault(api.ErrLexByte, 1, 5)},
		"a\n1 07 b":                          {3, fault(api.ErrLexNumber, 2, 3)},
		"a\n1\n" + strings.Repeat("b", 17):   {4, fault(api.ErrLexWord, 3, 1)},
		"a\n1\n" + strings.Repeat("b ", 101): {4, fault(api.ErrLexLine, 3, 1)},
		strings.Repeat(".", 201):             {0, fault(api.ErrLexLine, 1, 1)},
		strings.Repeat("a\n", 32769):         {0, api.Fault{Code: api.ErrLong}},
	} {
		s := lex.New(text)
		list, bad := drain(t, s)
		if len(list) != c.ahead || bad != c.bad {
			t.Errorf("%s: %d tokens, %+v, wanted %d, %+v", short(text), len(list), bad, c.ahead, c.bad)
		}
		for range 5 {
			if list, bad := drain(t, s); len(list) != 0 || bad != c.bad {
				t.Errorf("%s: the Fault again: %v, %+v", short(text), list, bad)
			}
		}
		holdBoth(t, text)
	}
}

// R2: a Fault is another one each time, of All and of Next.
func TestFaultsAreNew(t *testing.T) {
	want := fault(api.ErrLexByte, 1, 3)
	s := lex.New("a ?")
	s.Next()
	var seen []*api.Fault
	for range 3 {
		_, _, err := s.Next()
		_, all := lex.All("a ?")
		for _, e := range []error{err, all} {
			var bad *api.Fault
			if !errors.As(e, &bad) || *bad != want {
				t.Fatalf("%v, wanted %+v", e, want)
			}
			if slices.Contains(seen, bad) {
				t.Error("a Fault was given twice")
			}
			seen = append(seen, bad)
			*bad = api.Fault{Code: api.ErrArg, Line: 9, Col: 9}
		}
	}
}

// R2: lists are new memory, and what is written into one shows nowhere.
func TestListsAreNew(t *testing.T) {
	const text = "a 1\n.b"
	want, _ := model(text)
	s := lex.New(text)
	first, _ := lex.All(text)
	second, _ := lex.All(text)
	for i := range first[:cap(first)] {
		first[:cap(first)][i] = api.Tok{Kind: 9, Text: "x", Value: 9, Line: 9, Col: 9}
	}
	if !slices.Equal(second, want) {
		t.Errorf("%+v, wanted %+v", second, want)
	}
	hold(t, text, want, api.Fault{})
	if list, _ := drain(t, s); !slices.Equal(list, want) {
		t.Errorf("the scanner: %+v, wanted %+v", list, want)
	}
}

// P9.3: how far back is allowed, at each place of a text.
func TestBack(t *testing.T) {
	for _, text := range []string{"", "\n", "a", "a 1 .\nb", "a 1 ?", "?", "a\n\n" + strings.Repeat("z", 17), strings.Repeat(" ", 65537)} {
		want, bad := model(text)
		for at := range len(want) + 1 {
			for n := -2; n <= at+2; n++ {
				s := lex.New(text)
				for range at {
					s.Next()
				}
				left := at
				e := s.Back(n)
				if n < 0 || n > at {
					if e != api.ErrArg {
						t.Errorf("%s, at %d: Back(%d): %d", short(text), at, n, e)
					}
				} else {
					left -= n
					if e != api.OK {
						t.Errorf("%s, at %d: Back(%d): %d", short(text), at, n, e)
					}
				}
				list, got := drain(t, s)
				if !slices.Equal(list, want[left:]) || got != bad {
					t.Errorf("%s, at %d: behind Back(%d): %+v, %+v", short(text), at, n, list, got)
				}
			}
		}
	}
}

// P9.3: far out of range, again and again, and behind the end.
func TestBackFarOut(t *testing.T) {
	for _, text := range []string{"a b", "a b ?", ""} {
		want, bad := model(text)
		s := lex.New(text)
		drain(t, s)
		drain(t, s)
		for _, n := range []int{-1, math.MinInt, math.MaxInt, len(want) + 1, len(want) + 2} {
			if e := s.Back(n); e != api.ErrArg {
				t.Errorf("%q: Back(%d): %d", text, n, e)
			}
		}
		if list, got := drain(t, s); len(list) != 0 || got != bad {
			t.Errorf("%q: a refused Back moved it: %v, %+v", text, list, got)
		}
		for range 3 {
			if e := s.Back(0); e != api.OK {
				t.Errorf("%q: Back(0): %d", text, e)
			}
		}
		if list, got := drain(t, s); len(list) != 0 || got != bad {
			t.Errorf("%q: Back(0) moved it: %v, %+v", text, list, got)
		}
	}
}

// P9.3: Back in a row; what was gone back by stands behind no more.
func TestBackInARow(t *testing.T) {
	s := lex.New("a b c d")
	for range 4 {
		s.Next()
	}
	for _, c := range []struct {
		n    int
		want api.Errno
	}{{5, api.ErrArg}, {1, api.OK}, {4, api.ErrArg}, {2, api.OK}, {2, api.ErrArg}, {1, api.OK}, {1, api.ErrArg}, {0, api.OK}, {-1, api.ErrArg}} {
		if e := s.Back(c.n); e != c.want {
			t.Errorf("Back(%d): %d, wanted %d", c.n, e, c.want)
		}
	}
	if tok, ok, _ := s.Next(); tok != word("a", 1, 1) || !ok {
		t.Errorf("%+v, %v", tok, ok)
	}
}

// P9.2, P9.3: a walk to and fro, held against a place in the model's list, with
// two scanners in turn.
func TestWalk(t *testing.T) {
	texts := []string{"rule 7: 10.0.0.0/8 # x\n*", "a b c\n1 2 3 07", "\n\n\n", "?", "x"}
	for i, text := range texts {
		other := texts[(i+1)%len(texts)]
		draw := drawer(uint64(i) + 5)
		scanners := []*lex.Scanner{lex.New(text), lex.New(other), lex.New(text)}
		wants := [][]api.Tok{nil, nil, nil}
		bads := make([]api.Fault, 3)
		for k, x := range []string{text, other, text} {
			wants[k], bads[k] = model(x)
		}
		ats := make([]int, 3)
		for range 3000 {
			k := draw(3)
			if draw(3) == 0 {
				n := draw(6) - 1
				want := api.ErrArg
				if n >= 0 && n <= ats[k] {
					want = api.OK
					ats[k] -= n
				}
				if e := scanners[k].Back(n); e != want {
					t.Fatalf("%q: Back(%d): %d, wanted %d", text, n, e, want)
				}
				continue
			}
			tok, ok, err := scanners[k].Next()
			if ats[k] < len(wants[k]) {
				if tok != wants[k][ats[k]] || !ok || err != nil {
					t.Fatalf("%q: Next: %+v, %v, %v", text, tok, ok, err)
				}
				ats[k]++
			} else if tok != (api.Tok{}) || ok || faultOf(t, err) != bads[k] {
				t.Fatalf("%q: Next at the end: %+v, %v, %v", text, tok, ok, err)
			}
		}
	}
}

// R3, and a scanner that no call gave: that of no text.
func TestNoScanner(t *testing.T) {
	var none *lex.Scanner
	for range 2 {
		if tok, ok, err := none.Next(); tok != (api.Tok{}) || ok || err != nil {
			t.Errorf("Next of none: %+v, %v, %v", tok, ok, err)
		}
		for _, n := range []int{0, 1, -1, math.MinInt, math.MaxInt} {
			if e := none.Back(n); e != api.ErrNil {
				t.Errorf("Back(%d) of none: %d", n, e)
			}
		}
	}
	if lex.New("") == nil || lex.New("?") == nil || lex.New(strings.Repeat("a", 65537)) == nil {
		t.Error("New gave none")
	}
	var zero lex.Scanner
	if tok, ok, err := zero.Next(); tok != (api.Tok{}) || ok || err != nil {
		t.Errorf("Next of a scanner of noughts: %+v, %v, %v", tok, ok, err)
	}
	if zero.Back(0) != api.OK || zero.Back(1) != api.ErrArg {
		t.Error("Back of a scanner of noughts")
	}
}

// P9.4: scanners and All tell the same, of all short texts over some bytes.
func TestShortTexts(t *testing.T) {
	const some = "a0 1.#\n?"
	for n := range 6 {
		count := 1
		for range n {
			count *= len(some)
		}
		for i := range count {
			b := make([]byte, n)
			for k := range b {
				b[k] = some[i%len(some)]
				i /= len(some)
			}
			holdBoth(t, string(b))
		}
	}
}

// drawn is a text of pieces that are mostly right.
func drawn(draw func(int) int) string {
	pieces := []string{"a", "rule", "permit", "abcdefghijklmnop", "0", "7", "10", "4294967295", ".", "/", ":", "*", " ", "\t", "\r", "\n", "\n", "# x ?\n", "#"}
	wrong := []string{"?", "07", "4294967296", "abcdefghijklmnopq", "A", "\x80", "\x00", strings.Repeat(" ", 100)}
	var b strings.Builder
	for range draw(60) {
		if draw(150) == 0 {
			b.WriteString(wrong[draw(len(wrong))])
		} else {
			b.WriteString(pieces[draw(len(pieces))])
		}
	}
	return b.String()
}

// P9.4: a text that is cut behind a byte 10.
func TestCut(t *testing.T) {
	draw := drawer(9)
	whole, broken := 0, 0
	for range 4000 {
		text := drawn(draw)
		holdBoth(t, text)
		list, err := lex.All(text)
		if err != nil {
			broken++
			continue
		}
		whole++
		for i := range len(text) {
			if text[i] != '\n' {
				continue
			}
			first, err1 := lex.All(text[:i+1])
			second, err2 := lex.All(text[i+1:])
			lines := strings.Count(text[:i+1], "\n")
			for k := range second {
				second[k].Line += lines
			}
			if err1 != nil || err2 != nil || !slices.Equal(list, append(first, second...)) {
				t.Fatalf("%q cut at %d: %v, %v", text, i+1, err1, err2)
			}
		}
	}
	if whole < 500 || broken < 500 {
		t.Errorf("%d texts with nothing wrong, %d with something", whole, broken)
	}
}

// The tokens' texts are the text's own bytes at their places.
func TestPlaces(t *testing.T) {
	draw := drawer(21)
	for range 2000 {
		text := drawn(draw)
		list, _ := lex.All(text)
		rows := strings.SplitAfter(text, "\n")
		for _, tok := range list {
			if !strings.HasPrefix(rows[tok.Line-1][tok.Col-1:], tok.Text) {
				t.Fatalf("%q: %+v does not stand there", text, tok)
			}
		}
	}
}

// The chapter's table.
func TestExamples(t *testing.T) {
	hold(t, "rule 7: 10.0.0.0/8 # x\n*", []api.Tok{
		word("rule", 1, 1), number("7", 7, 1, 6), sign(":", 1, 7),
		number("10", 10, 1, 9), sign(".", 1, 11), number("0", 0, 1, 12), sign(".", 1, 13), number("0", 0, 1, 14), sign(".", 1, 15), number("0", 0, 1, 16), sign("/", 1, 17), number("8", 8, 1, 18),
		end(1, 23), sign("*", 2, 1), stop(2, 2),
	}, api.Fault{})
	hold(t, "", nil, api.Fault{})
	hold(t, "\n", []api.Tok{end(1, 1)}, api.Fault{})
	hold(t, "#", []api.Tok{stop(1, 2)}, api.Fault{})
	hold(t, "a-b", nil, fault(api.ErrLexByte, 1, 2))
	hold(t, "07", nil, fault(api.ErrLexNumber, 1, 1))
	hold(t, "4294967296", nil, fault(api.ErrLexNumber, 1, 1))
	hold(t, "abcdefghijklmnopq", nil, fault(api.ErrLexWord, 1, 1))

	s := lex.New("a ?")
	next := func(want api.Tok, bad api.Fault) {
		t.Helper()
		tok, ok, err := s.Next()
		if tok != want || ok != (bad == api.Fault{}) || faultOf(t, err) != bad {
			t.Errorf("Next: %+v, %v, %v", tok, ok, err)
		}
	}
	next(word("a", 1, 1), api.Fault{})
	next(api.Tok{}, fault(api.ErrLexByte, 1, 3))
	next(api.Tok{}, fault(api.ErrLexByte, 1, 3))
	if e := s.Back(1); e != api.OK {
		t.Errorf("Back(1): %d", e)
	}
	next(word("a", 1, 1), api.Fault{})
	next(api.Tok{}, fault(api.ErrLexByte, 1, 3))
	if e := s.Back(3); e != api.ErrArg {
		t.Errorf("Back(3): %d", e)
	}
}
