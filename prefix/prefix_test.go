package prefix_test

import (
	"fmt"
	"math"
	"slices"
	"strconv"
	"strings"
	"testing"

	"quintet/api"
	"quintet/prefix"
)

func at(addr uint32, n int) api.Prefix { return api.Prefix{Addr: addr, Len: n} }

// digits is an address's 32 bits as the library writes them. A prefix that may be is held against its digits as a text: another way than the package's own.
func digits(addr uint32) string { return fmt.Sprintf("%032b", addr) }

// stem is the digits that a prefix which may be asks for.
func stem(p api.Prefix) string { return digits(p.Addr)[:p.Len] }

// filled reads a stem as an address, with one digit in all places beyond.
func filled(t *testing.T, stem, digit string) uint32 {
	t.Helper()
	n, err := strconv.ParseUint(stem+strings.Repeat(digit, 32-len(stem)), 2, 32)
	if err != nil {
		t.Fatalf("a test's own stem %q: %v", stem, err)
	}
	return uint32(n)
}

// grown is the prefix of a stem.
func grown(t *testing.T, stem string) api.Prefix {
	t.Helper()
	return at(filled(t, stem, "0"), len(stem))
}

// addresses: the edges, patterns, and some that follow no plan.
func addresses() []uint32 {
	list := []uint32{0, 1, math.MaxUint32, math.MaxUint32 - 1, 1 << 31, 1<<31 - 1, 0x0a010203, 0x0a000000, 0x0affffff, 0x0b000000, 0x55555555, 0xaaaaaaaa, 0xc0a80101}
	x := uint32(2)
	for range 20 {
		x = x*1664525 + 1013904223
		list = append(list, x)
	}
	return list
}

// prefixes: of some addresses the prefixes of every length, so that many lie within one another.
func prefixes(t *testing.T) []api.Prefix {
	t.Helper()
	var list []api.Prefix
	for _, addr := range []uint32{0, math.MaxUint32, 0x0a010203, 0x0a80ff01, 0xaaaaaaaa} {
		for n := range 33 {
			list = append(list, grown(t, digits(addr)[:n]))
		}
	}
	return list
}

// wrongLengths: one beyond on either side, what looks right where only some bits of a number are looked at, the ends of all numbers.
func wrongLengths() []int {
	return []int{-1, 33, -2, 34, -31, -32, -33, 63, 64, 65, -64, 255, 256, 1 << 32, 1<<32 + 8, math.MaxInt32, math.MinInt32, math.MaxInt, math.MinInt}
}

type wrong struct {
	p   api.Prefix
	err api.Errno
}

// wrongs: prefixes that may not be, with the error that Check answers; of both errors the length's comes first.
func wrongs() []wrong {
	var list []wrong
	for _, n := range wrongLengths() {
		list = append(list, wrong{at(0, n), api.ErrPrefixLen}, wrong{at(1<<24, n), api.ErrPrefixLen}, wrong{at(math.MaxUint32, n), api.ErrPrefixLen})
	}
	for n := range 32 {
		list = append(list,
			wrong{at(1<<(31-n), n), api.ErrPrefixBits}, // the bit just beyond
			wrong{at(1, n), api.ErrPrefixBits},         // the last one
			wrong{at(math.MaxUint32, n), api.ErrPrefixBits})
	}
	return list
}

// P2.1

func TestCheckPassesWhatMayBe(t *testing.T) {
	for _, p := range prefixes(t) {
		if err := prefix.Check(p); err != api.OK {
			t.Errorf("Check(%v) = %d; want OK", p, err)
		}
	}
}

func TestCheckRefusesWhatMayNot(t *testing.T) {
	for _, w := range wrongs() {
		if err := prefix.Check(w.p); err != w.err {
			t.Errorf("Check(%v) = %d; want %d", w.p, err, w.err)
		}
	}
}

func TestOfLeavesOutWhatStandsBeyond(t *testing.T) {
	for _, addr := range addresses() {
		for n := range 33 {
			want := grown(t, digits(addr)[:n])
			if p, err := prefix.Of(addr, n); p != want || err != api.OK {
				t.Errorf("Of(%08x, %d) = %v, %d; want %v", addr, n, p, err, want)
			}
		}
	}
}

func TestOfRefuses(t *testing.T) {
	for _, n := range wrongLengths() {
		for _, addr := range addresses() {
			if p, err := prefix.Of(addr, n); p != (api.Prefix{}) || err != api.ErrPrefixLen {
				t.Errorf("Of(%08x, %d) = %v, %d; want nothing, ErrPrefixLen", addr, n, p, err)
			}
		}
	}
}

// P2.2

func TestRunIsTheLeastAndTheGreatest(t *testing.T) {
	for _, p := range prefixes(t) {
		want := api.Run{Lo: filled(t, stem(p), "0"), Hi: filled(t, stem(p), "1")}
		if run, err := prefix.Run(p); run != want || err != api.OK {
			t.Errorf("Run(%v) = %v, %d; want %v", p, run, err, want)
		}
	}
}

func TestRunRefuses(t *testing.T) {
	for _, w := range wrongs() {
		if run, err := prefix.Run(w.p); run != (api.Run{}) || err != w.err {
			t.Errorf("Run(%v) = %v, %d; want nothing, %d", w.p, run, err, w.err)
		}
	}
}

func TestHasTheAddressesThatBeginSo(t *testing.T) {
	for _, p := range prefixes(t) {
		low, high := filled(t, stem(p), "0"), filled(t, stem(p), "1")
		for _, addr := range append(addresses(), low, high, low-1, high+1) {
			want := strings.HasPrefix(digits(addr), stem(p))
			if got := prefix.Has(p, addr); got != want {
				t.Errorf("Has(%v, %08x) = %t", p, addr, got)
			}
		}
	}
}

func TestHasNoneIfItMayNotBe(t *testing.T) {
	for _, w := range wrongs() {
		for _, addr := range append(addresses(), w.p.Addr) {
			if prefix.Has(w.p, addr) {
				t.Errorf("Has(%v, %08x) = true", w.p, addr)
			}
		}
	}
}

// P2.3

func TestWithinIsToBeginAlike(t *testing.T) {
	for _, a := range prefixes(t) {
		for _, b := range prefixes(t) {
			want := strings.HasPrefix(stem(a), stem(b))
			if got := prefix.Within(a, b); got != want {
				t.Errorf("Within(%v, %v) = %t", a, b, got)
			}
		}
	}
}

func TestWithinNothingThatMayNotBe(t *testing.T) {
	right := []api.Prefix{at(0, 0), at(0, 32), at(math.MaxUint32, 32), at(0x0a000000, 8)}
	for _, w := range wrongs() {
		for _, p := range append(right, w.p) {
			if prefix.Within(w.p, p) || prefix.Within(p, w.p) {
				t.Errorf("%v and %v: one lies within the other", w.p, p)
			}
		}
	}
}

func TestCommonIsTheLongestOfBoth(t *testing.T) {
	for _, a := range prefixes(t) {
		for _, b := range prefixes(t) {
			s, n := stem(a), 0
			for n < len(s) && strings.HasPrefix(stem(b), s[:n+1]) {
				n++
			}
			want := grown(t, s[:n])
			if got, err := prefix.Common(a, b); got != want || err != api.OK {
				t.Errorf("Common(%v, %v) = %v, %d; want %v", a, b, got, err, want)
			}
		}
	}
}

func TestCommonRefusesTheFirstOneFirst(t *testing.T) {
	fine := at(0x0a000000, 8)
	common := func(a, b api.Prefix, want api.Errno) {
		t.Helper()
		if got, err := prefix.Common(a, b); got != (api.Prefix{}) || err != want {
			t.Errorf("Common(%v, %v) = %v, %d; want nothing, %d", a, b, got, err, want)
		}
	}
	for _, w := range wrongs() {
		common(w.p, fine, w.err)
		common(fine, w.p, w.err)
		common(w.p, w.p, w.err)
		common(w.p, at(1, 0), w.err)
		common(w.p, at(0, 33), w.err)
	}
}

// P2.4

func TestHalvesHaveOneBitMore(t *testing.T) {
	for _, p := range prefixes(t) {
		if p.Len == 32 {
			continue
		}
		low, high := grown(t, stem(p)+"0"), grown(t, stem(p)+"1")
		if a, b, err := prefix.Halves(p); a != low || b != high || err != api.OK {
			t.Errorf("Halves(%v) = %v, %v, %d; want %v, %v", p, a, b, err, low, high)
		}
	}
}

func TestHalvesRefuse(t *testing.T) {
	list := wrongs()
	for _, addr := range addresses() {
		list = append(list, wrong{at(addr, 32), api.ErrPrefixEnd})
	}
	for _, w := range list {
		if a, b, err := prefix.Halves(w.p); a != (api.Prefix{}) || b != (api.Prefix{}) || err != w.err {
			t.Errorf("Halves(%v) = %v, %v, %d; want nothing, %d", w.p, a, b, err, w.err)
		}
	}
}

// chain is what Above is to give.
func chain(t *testing.T, p api.Prefix) []api.Prefix {
	t.Helper()
	var list []api.Prefix
	for s := stem(p); ; s = s[:len(s)-1] {
		list = append(list, grown(t, s))
		if s == "" {
			return list
		}
	}
}

func TestAboveGivesTheLongestFirst(t *testing.T) {
	for _, p := range prefixes(t) {
		seq := prefix.Above(p)
		for range 2 {
			if got := slices.Collect(seq); !slices.Equal(got, chain(t, p)) {
				t.Errorf("Above(%v) = %v", p, got)
			}
		}
	}
}

func TestAboveIsLeftEarly(t *testing.T) {
	p := at(0xc0a80101, 32)
	seq, want := prefix.Above(p), chain(t, p)
	for stop := 1; stop <= len(want); stop++ {
		var got []api.Prefix
		for q := range seq {
			if got = append(got, q); len(got) == stop {
				break
			}
		}
		if !slices.Equal(got, want[:stop]) {
			t.Errorf("left after %d: %v", stop, got)
		}
	}
}

func TestAboveIsRangedOverWithinItself(t *testing.T) {
	p := at(0xc0000000, 3)
	seq, want := prefix.Above(p), chain(t, p)
	var outer []api.Prefix
	for q := range seq {
		outer = append(outer, q)
		if inner := slices.Collect(seq); !slices.Equal(inner, want) {
			t.Errorf("within itself, at %v: %v", q, inner)
		}
	}
	if !slices.Equal(outer, want) {
		t.Errorf("Above(%v) with another within = %v", p, outer)
	}
}

func TestAboveGivesNothingIfItMayNotBe(t *testing.T) {
	for _, w := range wrongs() {
		seq := prefix.Above(w.p)
		if seq == nil {
			t.Fatalf("Above(%v) = nil", w.p)
		}
		if got := slices.Collect(seq); len(got) != 0 {
			t.Errorf("Above(%v) = %v; want nothing", w.p, got)
		}
	}
}

// P2.5

// ordered: prefixes in the order that Compare asks for, also some that may not be.
func ordered() []api.Prefix {
	lens := []int{math.MinInt, -1, 0, 1, 8, 31, 32, 33, math.MaxInt}
	var list []api.Prefix
	for _, addr := range []uint32{0, 1, 0x0a000000, 1<<31 - 1, 1 << 31, math.MaxUint32 - 1, math.MaxUint32} {
		for _, n := range lens {
			list = append(list, at(addr, n))
		}
	}
	return list
}

func TestCompareIsByAddrThenLen(t *testing.T) {
	list := ordered()
	for i, a := range list {
		for j, b := range list {
			want := 0
			if i < j {
				want = -1
			} else if i > j {
				want = 1
			}
			if got := prefix.Compare(a, b); got != want {
				t.Errorf("Compare(%v, %v) = %d; want %d", a, b, got, want)
			}
		}
	}
}

// P2.6

// blocks cuts the addresses from lo to hi (hi itself not one of them) into the greatest prefixes that fit, one behind the other: so few as can be.
func blocks(lo, hi uint64) []api.Prefix {
	var list []api.Prefix
	for lo < hi {
		n, size := 32, uint64(1)
		for n > 0 && lo%(2*size) == 0 && lo+2*size <= hi {
			n, size = n-1, 2*size
		}
		list = append(list, at(uint32(lo), n))
		lo += size
	}
	return list
}

// edges are the first address of a prefix that may be, and the one behind its last.
func edges(t *testing.T, p api.Prefix) (uint64, uint64) {
	t.Helper()
	return uint64(filled(t, stem(p), "0")), uint64(filled(t, stem(p), "1")) + 1
}

// left is what Less is to answer: what of a stands ahead of b, and what behind it.
func left(t *testing.T, a, b api.Prefix) []api.Prefix {
	t.Helper()
	lo, hi := edges(t, a)
	from, to := edges(t, b)
	return append(blocks(lo, min(hi, from)), blocks(max(lo, to), hi)...)
}

func TestLessIsTheFewestRising(t *testing.T) {
	for _, a := range prefixes(t) {
		for _, b := range prefixes(t) {
			want := left(t, a, b)
			if got := prefix.Less(a, b); !slices.Equal(got, want) {
				t.Errorf("Less(%v, %v) = %v; want %v", a, b, got, want)
			}
		}
	}
}

func TestLessOfAllAndOneAddress(t *testing.T) {
	for _, addr := range addresses() {
		list := prefix.Less(at(0, 0), at(addr, 32))
		if len(list) != 32 || !slices.IsSortedFunc(list, prefix.Compare) {
			t.Errorf("Less of all and %08x: %v", addr, list)
		}
	}
}

func TestLessIsNothingIfOneMayNotBe(t *testing.T) {
	right := []api.Prefix{at(0, 0), at(0, 32), at(math.MaxUint32, 32), at(0x0a000000, 8)}
	for _, w := range wrongs() {
		for _, p := range append(right, w.p) {
			if list := prefix.Less(w.p, p); len(list) != 0 {
				t.Errorf("Less(%v, %v) = %v; want nothing", w.p, p, list)
			}
			if list := prefix.Less(p, w.p); len(list) != 0 {
				t.Errorf("Less(%v, %v) = %v; want nothing", p, w.p, list)
			}
		}
	}
}

func TestLessAnswersNewMemory(t *testing.T) {
	a, b := at(0, 0), at(0xc0000000, 2)
	list := prefix.Less(a, b)
	clear(list[:cap(list)])
	if again := prefix.Less(a, b); !slices.Equal(again, left(t, a, b)) {
		t.Errorf("Less(%v, %v) = %v, after its first answer was written into", a, b, again)
	}
}

// P2.7

// lies tells whether a's Run lies within b's.
func lies(t *testing.T, a, b api.Prefix) bool {
	t.Helper()
	p, e := prefix.Run(a)
	q, f := prefix.Run(b)
	if e != api.OK || f != api.OK {
		t.Fatalf("Run(%v): %d, Run(%v): %d", a, e, b, f)
	}
	return p.Lo >= q.Lo && p.Hi <= q.Hi
}

func TestTwoAreApartOrOneLiesWithin(t *testing.T) {
	for _, a := range prefixes(t) {
		for _, b := range prefixes(t) {
			apart := !prefix.Has(a, b.Addr) && !prefix.Has(b, a.Addr)
			if nested := prefix.Within(a, b) || prefix.Within(b, a); apart == nested {
				t.Errorf("%v and %v: apart %t, one within the other %t", a, b, apart, nested)
			}
			if prefix.Within(a, b) != lies(t, a, b) {
				t.Errorf("Within(%v, %v) = %t, but of the runs %t", a, b, prefix.Within(a, b), lies(t, a, b))
			}
		}
	}
}

func TestWithinIsAnOrder(t *testing.T) {
	list := prefixes(t)
	for i := 0; i < len(list); i += 2 {
		a := list[i]
		if !prefix.Within(a, a) {
			t.Errorf("%v does not lie within itself", a)
		}
		for _, b := range list {
			if a != b && prefix.Within(a, b) && prefix.Within(b, a) {
				t.Errorf("%v and %v lie within one another", a, b)
			}
			for j := 1; j < len(list); j += 3 {
				if c := list[j]; prefix.Within(a, b) && prefix.Within(b, c) && !prefix.Within(a, c) {
					t.Errorf("%v within %v within %v, but not %v within %v", a, b, c, a, c)
				}
			}
		}
	}
}

// holders is how many of a list's prefixes have an address.
func holders(list []api.Prefix, addr uint32) int {
	n := 0
	for _, p := range list {
		if prefix.Has(p, addr) {
			n++
		}
	}
	return n
}

func TestAnAddressIsInOnePieceOrInBoth(t *testing.T) {
	for _, a := range prefixes(t) {
		for _, b := range prefixes(t) {
			pieces := prefix.Less(a, b)
			for _, addr := range []uint32{0, math.MaxUint32, a.Addr, b.Addr, b.Addr - 1, 0x0a010203, 0xaaaaaaaa, 0xaaaaaaab, 0x0a80ff00} {
				want := 0
				if prefix.Has(a, addr) && !prefix.Has(b, addr) {
					want = 1
				}
				if got := holders(pieces, addr); got != want {
					t.Errorf("%08x is in %d pieces of Less(%v, %v); want %d", addr, got, a, b, want)
				}
			}
		}
	}
}

func TestHalvesHaveTheAddresses(t *testing.T) {
	for _, p := range prefixes(t) {
		if p.Len == 32 {
			continue
		}
		low, high, err := prefix.Halves(p)
		for _, addr := range append(addresses(), p.Addr, p.Addr-1, low.Addr, high.Addr, high.Addr-1) {
			want := 0
			if prefix.Has(p, addr) {
				want = 1
			}
			if got := holders([]api.Prefix{low, high}, addr); got != want || err != api.OK {
				t.Errorf("%08x is in %d halves of %v; want %d", addr, got, p, want)
			}
		}
	}
}

func TestAboveTellsLenAndOneMore(t *testing.T) {
	for _, p := range prefixes(t) {
		n := 0
		for q := range prefix.Above(p) {
			if !prefix.Within(p, q) {
				t.Errorf("Above(%v) gives %v, within which it does not lie", p, q)
			}
			n++
		}
		if n != p.Len+1 {
			t.Errorf("Above(%v) gives %d", p, n)
		}
	}
}

// The chapter's table of examples.

// answer is an answer's texts: the calls answer of several types.
func answer(values ...any) string { return fmt.Sprint(values...) }

func TestExamples(t *testing.T) {
	const a, b, c = 0x0a000000, 0x0b000000, 0x0a800000 // 10.0.0.0, 11.0.0.0, 10.128.0.0
	const addr = 0x0a010203                            // 10.1.2.3
	of := func(addr uint32, n int) string { p, err := prefix.Of(addr, n); return answer(p, err) }
	common := func(a, b api.Prefix) string { p, err := prefix.Common(a, b); return answer(p, err) }
	halves := func(p api.Prefix) string { a, b, err := prefix.Halves(p); return answer(a, b, err) }
	run, err := prefix.Run(at(a, 8))
	for _, x := range []struct{ call, got, want string }{
		{"Check of 10.0.0.0/8", answer(prefix.Check(at(a, 8))), answer(api.OK)},
		{"Check of 10.0.0.1/31", answer(prefix.Check(at(a+1, 31))), answer(api.ErrPrefixBits)},
		{"Check of 0.0.0.0/33", answer(prefix.Check(at(0, 33))), answer(api.ErrPrefixLen)},
		{"Check of 1.0.0.0/-1", answer(prefix.Check(at(1<<24, -1))), answer(api.ErrPrefixLen)},
		{"Of(10.1.2.3, 8)", of(addr, 8), answer(at(a, 8), api.OK)},
		{"Of(10.1.2.3, 32)", of(addr, 32), answer(at(addr, 32), api.OK)},
		{"Of(10.1.2.3, 0)", of(addr, 0), answer(at(0, 0), api.OK)},
		{"Run of 10.0.0.0/8", answer(run, err), answer(api.Run{Lo: 0x0a000000, Hi: 0x0affffff}, api.OK)},
		{"Common of 10.0.0.0/8 and 11.0.0.0/8", common(at(a, 8), at(b, 8)), answer(at(a, 7), api.OK)},
		{"Common of 10.0.0.0/8 and 10.128.0.0/9", common(at(a, 8), at(c, 9)), answer(at(a, 8), api.OK)},
		{"Halves of 0.0.0.0/0", halves(at(0, 0)), answer(at(0, 1), at(1<<31, 1), api.OK)},
		{"Halves of 1.2.3.4/32", halves(at(0x01020304, 32)), answer(at(0, 0), at(0, 0), api.ErrPrefixEnd)},
		{"Above of 192.0.0.0/2", answer(slices.Collect(prefix.Above(at(3<<30, 2)))), answer([]api.Prefix{at(3<<30, 2), at(1<<31, 1), at(0, 0)})},
		{"Less(0.0.0.0/0, 192.0.0.0/2)", answer(prefix.Less(at(0, 0), at(3<<30, 2))), answer([]api.Prefix{at(0, 1), at(1<<31, 2)})},
		{"Less(10.0.0.0/8, 10.0.0.0/7)", answer(prefix.Less(at(a, 8), at(a, 7))), answer([]api.Prefix{})},
		{"Less(10.0.0.0/8, 11.0.0.0/8)", answer(prefix.Less(at(a, 8), at(b, 8))), answer([]api.Prefix{at(a, 8)})},
	} {
		if x.got != x.want {
			t.Errorf("%s = %s; want %s", x.call, x.got, x.want)
		}
	}
}
