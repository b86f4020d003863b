package bits_test

import (
	"fmt"
	"math"
	"strconv"
	"strings"
	"testing"

	"quintet/api"
	"quintet/bits"
)

// digits is a word's 32 bits as the library writes them: what every answer is held against, built another way than the package's own.
func digits(a uint32) string { return fmt.Sprintf("%032b", a) }

// word reads 32 digits back.
func word(t *testing.T, text string) uint32 {
	t.Helper()
	n, err := strconv.ParseUint(text, 2, 32)
	if err != nil || len(text) != 32 {
		t.Fatalf("a test's own word %q: %v", text, err)
	}
	return uint32(n)
}

// words: none, all, each single bit, each run of first and of last bits, some patterns, and some that follow no plan.
func words() []uint32 {
	list := []uint32{0, math.MaxUint32, 0x0a000000, 0x0a000001, 0xc0a80101, 0xf0f0, 0x55555555, 0xaaaaaaaa, 0x01234567, 0x89abcdef, 7}
	for i := range 32 {
		list = append(list, 1<<i, ^uint32(1<<i), math.MaxUint32<<i, math.MaxUint32>>i)
	}
	x := uint32(1)
	for range 100 {
		x = x*1664525 + 1013904223
		list = append(list, x)
	}
	return list
}

// wrongLengths: beside 0 to 32, both edges and the ends of all numbers; 32 more or less would pass where only some bits of a number are looked at.
func wrongLengths() []int {
	return []int{-1, -2, -31, -32, -33, -64, 33, 34, 63, 64, 65, 255, 256, 1 << 32, 1<<32 + 8, math.MaxInt32, math.MinInt32, math.MaxInt, math.MinInt}
}

// P1.1

func TestHighIsTheFirstOnes(t *testing.T) {
	for n := 0; n <= 32; n++ {
		want := word(t, strings.Repeat("1", n)+strings.Repeat("0", 32-n))
		if got, e := bits.High(n); got != want || e != api.OK {
			t.Errorf("High(%d) = %08x, %d; want %08x", n, got, e, want)
		}
	}
}

func TestHighRefuses(t *testing.T) {
	for _, n := range wrongLengths() {
		if got, e := bits.High(n); got != 0 || e != api.ErrArg {
			t.Errorf("High(%d) = %08x, %d; want 0, ErrArg", n, got, e)
		}
	}
}

func TestKeepLeavesTheFirstBits(t *testing.T) {
	for _, a := range words() {
		for n := 0; n <= 32; n++ {
			want := word(t, digits(a)[:n]+strings.Repeat("0", 32-n))
			if got, e := bits.Keep(a, n); got != want || e != api.OK {
				t.Errorf("Keep(%08x, %d) = %08x, %d; want %08x", a, n, got, e, want)
			}
		}
	}
}

func TestKeepRefuses(t *testing.T) {
	for _, n := range wrongLengths() {
		for _, a := range []uint32{0, 1, 0xc0a80101, math.MaxUint32} {
			if got, e := bits.Keep(a, n); got != 0 || e != api.ErrArg {
				t.Errorf("Keep(%08x, %d) = %08x, %d; want 0, ErrArg", a, n, got, e)
			}
		}
	}
}

// P1.2

func TestAtIsTheBit(t *testing.T) {
	for _, a := range words() {
		for i := range 32 {
			want := int(digits(a)[i] - '0')
			if got, e := bits.At(a, i); got != want || e != api.OK {
				t.Errorf("At(%08x, %d) = %d, %d; want %d", a, i, got, e, want)
			}
		}
	}
}

func TestAtRefuses(t *testing.T) {
	for _, i := range append(wrongLengths(), 32) {
		for _, a := range []uint32{0, 1, 0x80000000, math.MaxUint32} {
			if got, e := bits.At(a, i); got != 0 || e != api.ErrArg {
				t.Errorf("At(%08x, %d) = %d, %d; want 0, ErrArg", a, i, got, e)
			}
		}
	}
}

// alike is how many digits two texts of one length begin with alike.
func alike(a, b string) int {
	n := 0
	for n < len(a) && a[n] == b[n] {
		n++
	}
	return n
}

func TestSameCountsToTheFirstDifference(t *testing.T) {
	for _, a := range words() {
		for _, b := range words() {
			want := alike(digits(a), digits(b))
			if got := bits.Same(a, b); got != want {
				t.Errorf("Same(%08x, %08x) = %d; want %d", a, b, got, want)
			}
		}
	}
}

// P1.3

func TestLowCountsTheLastNoughts(t *testing.T) {
	for _, a := range words() {
		want := 32 - len(strings.TrimRight(digits(a), "0"))
		if got := bits.Low(a); got != want {
			t.Errorf("Low(%08x) = %d; want %d", a, got, want)
		}
	}
}

func TestOnesCountsTheOnes(t *testing.T) {
	for _, a := range words() {
		want := strings.Count(digits(a), "1")
		if got := bits.Ones(a); got != want {
			t.Errorf("Ones(%08x) = %d; want %d", a, got, want)
		}
	}
}

// Each number of four bits at each of the eight places of a word: a wrong one in the table of ones shows whichever it is.
func TestOnesOfEachFourBits(t *testing.T) {
	for place := range 8 {
		for four := range uint32(16) {
			a := four << (4 * place)
			want := strings.Count(digits(a), "1")
			if got := bits.Ones(a); got != want {
				t.Errorf("Ones(%08x) = %d; want %d", a, got, want)
			}
		}
	}
}

func TestTurnIsTheWordBackward(t *testing.T) {
	for _, a := range words() {
		text := []byte(digits(a))
		for i := range 16 {
			text[i], text[31-i] = text[31-i], text[i]
		}
		want := word(t, string(text))
		if got := bits.Turn(a); got != want {
			t.Errorf("Turn(%08x) = %08x; want %08x", a, got, want)
		}
	}
}

// P1.4

func TestTextIsTheFirstDigits(t *testing.T) {
	for _, a := range words() {
		for n := 0; n <= 32; n++ {
			want := digits(a)[:n]
			if got, e := bits.Text(a, n); got != want || e != api.OK {
				t.Errorf("Text(%08x, %d) = %q, %d; want %q", a, n, got, e, want)
			}
		}
	}
}

func TestTextRefuses(t *testing.T) {
	for _, n := range wrongLengths() {
		for _, a := range []uint32{0, 5, math.MaxUint32} {
			if got, e := bits.Text(a, n); got != "" || e != api.ErrArg {
				t.Errorf("Text(%08x, %d) = %q, %d; want nothing, ErrArg", a, n, got, e)
			}
		}
	}
}

// P1.5

func TestSameIsWhatKeepLeavesAlike(t *testing.T) {
	for _, a := range words() {
		for _, b := range words() {
			same := bits.Same(a, b)
			for n := 0; n <= 32; n++ {
				p, e := bits.Keep(a, n)
				q, f := bits.Keep(b, n)
				if e != api.OK || f != api.OK || (same >= n) != (p == q) {
					t.Errorf("Same(%08x, %08x) = %d, but Keep of %d bits: %08x, %08x", a, b, same, n, p, q)
				}
			}
		}
	}
}

func TestTurnTwiceIsTheWord(t *testing.T) {
	for _, a := range words() {
		if got := bits.Turn(bits.Turn(a)); got != a {
			t.Errorf("Turn of Turn of %08x = %08x", a, got)
		}
	}
}

func TestLowIsSameOfTheTurned(t *testing.T) {
	for _, a := range words() {
		if low, same := bits.Low(a), bits.Same(bits.Turn(a), 0); low != same {
			t.Errorf("Low(%08x) = %d, but Same of the turned word and 0 = %d", a, low, same)
		}
	}
}

// The chapter's table of examples.

type answer struct {
	value any
	err   api.Errno
}

func pair[V any](v V, e api.Errno) answer { return answer{v, e} }

func TestExamples(t *testing.T) {
	for _, x := range []struct {
		call      string
		got, want answer
	}{
		{"High(0)", pair(bits.High(0)), answer{uint32(0), api.OK}},
		{"High(8)", pair(bits.High(8)), answer{uint32(0xff000000), api.OK}},
		{"High(32)", pair(bits.High(32)), answer{uint32(0xffffffff), api.OK}},
		{"High(33)", pair(bits.High(33)), answer{uint32(0), api.ErrArg}},
		{"High(-1)", pair(bits.High(-1)), answer{uint32(0), api.ErrArg}},
		{"Keep(C0A80101, 16)", pair(bits.Keep(0xc0a80101, 16)), answer{uint32(0xc0a80000), api.OK}},
		{"Keep(C0A80101, 0)", pair(bits.Keep(0xc0a80101, 0)), answer{uint32(0), api.OK}},
		{"Keep(1, 33)", pair(bits.Keep(1, 33)), answer{uint32(0), api.ErrArg}},
		{"At(80000000, 0)", pair(bits.At(0x80000000, 0)), answer{1, api.OK}},
		{"At(80000000, 31)", pair(bits.At(0x80000000, 31)), answer{0, api.OK}},
		{"At(1, 32)", pair(bits.At(1, 32)), answer{0, api.ErrArg}},
		{"Same(0A000000, 0A000001)", pair(bits.Same(0x0a000000, 0x0a000001), api.OK), answer{31, api.OK}},
		{"Same(0, 80000000)", pair(bits.Same(0, 0x80000000), api.OK), answer{0, api.OK}},
		{"Same(7, 7)", pair(bits.Same(7, 7), api.OK), answer{32, api.OK}},
		{"Low(0)", pair(bits.Low(0), api.OK), answer{32, api.OK}},
		{"Low(8)", pair(bits.Low(8), api.OK), answer{3, api.OK}},
		{"Ones(F0F0)", pair(bits.Ones(0xf0f0), api.OK), answer{8, api.OK}},
		{"Turn(1)", pair(bits.Turn(1), api.OK), answer{uint32(0x80000000), api.OK}},
		{"Text(C0000000, 4)", pair(bits.Text(0xc0000000, 4)), answer{"1100", api.OK}},
		{"Text(5, 0)", pair(bits.Text(5, 0)), answer{"", api.OK}},
		{"Text(5, 33)", pair(bits.Text(5, 33)), answer{"", api.ErrArg}},
	} {
		if x.got != x.want {
			t.Errorf("%s = %v, %d; want %v, %d", x.call, x.got.value, x.got.err, x.want.value, x.want.err)
		}
	}
}
