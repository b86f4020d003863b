package header_test

import (
	"cmp"
	"math"
	"math/big"
	"slices"
	"strconv"
	"strings"
	"testing"

	"quintet/api"
	"quintet/header"
)

func head(src, dst uint32, sport, dport uint16, proto uint8) api.Header {
	return api.Header{Src: src, Dst: dst, Sport: sport, Dport: dport, Proto: proto}
}

var (
	noughts  = api.Header{}
	greatest = head(math.MaxUint32, math.MaxUint32, math.MaxUint16, math.MaxUint16, math.MaxUint8)
	web      = head(0x0a000001, 0xc0a80002, 1024, 80, 6)
)

// edges are the first and the last bit of each field.
var edges = []int{0, 31, 32, 63, 64, 79, 80, 95, 96, 103}

// number is a header's fields side by side as one number, by which headers are modelled: another way than the package's own bytes.
func number(h api.Header) *big.Int {
	n := new(big.Int)
	for _, f := range []struct {
		value uint64
		bits  uint
	}{{uint64(h.Src), 32}, {uint64(h.Dst), 32}, {uint64(h.Sport), 16}, {uint64(h.Dport), 16}, {uint64(h.Proto), 8}} {
		n.Lsh(n, f.bits)
		n.Or(n, new(big.Int).SetUint64(f.value))
	}
	return n
}

// ofNumber is the header of a number that is below 2^104.
func ofNumber(n *big.Int) api.Header {
	part := func(from, bits uint) uint64 {
		p := new(big.Int).Rsh(n, 104-from-bits)
		return p.And(p, new(big.Int).SetUint64(1<<bits-1)).Uint64()
	}
	return head(uint32(part(0, 32)), uint32(part(32, 32)), uint16(part(64, 16)), uint16(part(80, 16)), uint8(part(96, 8)))
}

// digits is a header as 104 digits, by its fields.
func digits(h api.Header) string {
	field := func(v uint64, bits int) string {
		text := strconv.FormatUint(v, 2)
		return strings.Repeat("0", bits-len(text)) + text
	}
	return field(uint64(h.Src), 32) + field(uint64(h.Dst), 32) + field(uint64(h.Sport), 16) + field(uint64(h.Dport), 16) + field(uint64(h.Proto), 8)
}

// inOrder holds headers against one another field by field, as DOC.md words it.
func inOrder(a, b api.Header) int {
	return cmp.Or(cmp.Compare(a.Src, b.Src), cmp.Compare(a.Dst, b.Dst), cmp.Compare(a.Sport, b.Sport), cmp.Compare(a.Dport, b.Dport), cmp.Compare(a.Proto, b.Proto))
}

// some are headers at the edges and amid them: each bit alone, and each bit alone wanting; fields that are noughts or the greatest, in all ways; some by a rule that goes all about.
func some() []api.Header {
	list := []api.Header{web, head(1, 2, 3, 4, 5), head(0x01020304, 0x05060708, 0x090a, 0x0b0c, 0x0d), head(0x80000001, 0x7ffffffe, 0x8001, 0x7ffe, 0x81)}
	for i := range 104 {
		bit := new(big.Int).Lsh(big.NewInt(1), uint(i))
		list = append(list, ofNumber(bit), ofNumber(bit.Sub(number(greatest), bit)))
	}
	for set := range 1 << 5 {
		all := func(field int) uint32 { return -uint32(set >> field & 1) }
		list = append(list, head(all(0), all(1), uint16(all(2)), uint16(all(3)), uint8(all(4))))
	}
	state := uint64(7)
	draw := func() uint64 {
		state = state*6364136223846793005 + 1442695040888963407
		return state >> 32
	}
	for range 60 {
		list = append(list, head(uint32(draw()), uint32(draw()), uint16(draw()), uint16(draw()), uint8(draw())))
	}
	return list
}

// P6.1

func TestPack(t *testing.T) {
	for _, h := range some() {
		want := number(h).FillBytes(make([]byte, 13))
		if got := header.Pack(h); !slices.Equal(got, want) {
			t.Errorf("Pack(%v) = % x, want % x", h, got, want)
		}
	}
}

func TestPackFieldByField(t *testing.T) {
	for _, c := range []struct {
		h    api.Header
		want []byte
	}{
		{noughts, make([]byte, 13)},
		{head(0x01020304, 0, 0, 0, 0), []byte{1, 2, 3, 4, 0, 0, 0, 0, 0, 0, 0, 0, 0}},
		{head(0, 0x05060708, 0, 0, 0), []byte{0, 0, 0, 0, 5, 6, 7, 8, 0, 0, 0, 0, 0}},
		{head(0, 0, 0x090a, 0, 0), []byte{0, 0, 0, 0, 0, 0, 0, 0, 9, 10, 0, 0, 0}},
		{head(0, 0, 0, 0x0b0c, 0), []byte{0, 0, 0, 0, 0, 0, 0, 0, 0, 0, 11, 12, 0}},
		{head(0, 0, 0, 0, 0x0d), []byte{0, 0, 0, 0, 0, 0, 0, 0, 0, 0, 0, 0, 13}},
		{greatest, slices.Repeat([]byte{0xff}, 13)},
	} {
		if got := header.Pack(c.h); !slices.Equal(got, c.want) {
			t.Errorf("Pack(%v) = % x, want % x", c.h, got, c.want)
		}
		if got, err := header.Unpack(c.want); got != c.h || err != api.OK {
			t.Errorf("Unpack(% x) = %v, %d, want %v", c.want, got, err, c.h)
		}
	}
}

func TestUnpack(t *testing.T) {
	for _, h := range some() {
		b := number(h).FillBytes(make([]byte, 13))
		if got, err := header.Unpack(b); got != h || err != api.OK {
			t.Errorf("Unpack(% x) = %v, %d, want %v", b, got, err, h)
		}
	}
}

func TestUnpackOfAnotherSize(t *testing.T) {
	long := slices.Repeat([]byte{0xff}, 300)
	for n := range long {
		if n == 13 {
			continue
		}
		if got, err := header.Unpack(long[:n]); got != noughts || err != api.ErrHeaderSize {
			t.Errorf("Unpack of %d bytes = %v, %d", n, got, err)
		}
	}
	if got, err := header.Unpack(nil); got != noughts || err != api.ErrHeaderSize {
		t.Errorf("Unpack(nil) = %v, %d", got, err)
	}
	if got, err := header.Unpack(make([]byte, 12, 13)); got != noughts || err != api.ErrHeaderSize {
		t.Errorf("Unpack of 12 bytes with room for one more = %v, %d", got, err)
	}
	if got, err := header.Unpack(make([]byte, 1<<16+13)); got != noughts || err != api.ErrHeaderSize {
		t.Errorf("Unpack of 65549 bytes = %v, %d", got, err)
	}
}

func TestUnpackLeavesItsBytes(t *testing.T) {
	room := slices.Repeat([]byte{0x5a}, 30)
	for _, part := range [][]byte{room[:0], room[2:14], room[2:15], room[2:15:15], room[2:16]} {
		header.Unpack(part)
		if !slices.Equal(room, slices.Repeat([]byte{0x5a}, 30)) {
			t.Fatalf("Unpack of %d bytes wrote: % x", len(part), room)
		}
	}
	own := header.Pack(web)
	got, _ := header.Unpack(own)
	clear(own)
	if got != web {
		t.Errorf("the header changed with the bytes it came from: %v", got)
	}
}

func TestPackIsNewMemory(t *testing.T) {
	first, second := header.Pack(web), header.Pack(web)
	kept := slices.Clone(second)
	clear(first)
	_ = append(first, 1, 2, 3)
	if !slices.Equal(second, kept) {
		t.Errorf("a second answer changed with the first one: % x", second)
	}
	third := header.Pack(web)
	if !slices.Equal(third, kept) {
		t.Errorf("a later answer changed with what was written into an earlier one: % x", third)
	}
	header.Pack(greatest)
	header.Unpack(make([]byte, 13))
	header.Next(web)
	header.Turn(web, 3)
	if !slices.Equal(third, kept) {
		t.Errorf("an answer changed by later calls: % x", third)
	}
}

// P6.2

func TestBit(t *testing.T) {
	for _, h := range some() {
		n := number(h)
		for i := range 104 {
			want := int(n.Bit(103 - i))
			if got, err := header.Bit(h, i); got != want || err != api.OK {
				t.Errorf("Bit(%v, %d) = %d, %d, want %d", h, i, got, err, want)
			}
		}
	}
}

func TestTurn(t *testing.T) {
	for _, h := range some() {
		n := number(h)
		for i := range 104 {
			bit := new(big.Int).Lsh(big.NewInt(1), uint(103-i))
			want := ofNumber(bit.Xor(n, bit))
			if got, err := header.Turn(h, i); got != want || err != api.OK {
				t.Errorf("Turn(%v, %d) = %v, %d, want %v", h, i, got, err, want)
			}
		}
	}
}

func TestBitsAtTheEdges(t *testing.T) {
	for k, want := range []api.Header{
		{Src: 1 << 31}, {Src: 1}, {Dst: 1 << 31}, {Dst: 1}, {Sport: 1 << 15}, {Sport: 1}, {Dport: 1 << 15}, {Dport: 1}, {Proto: 1 << 7}, {Proto: 1},
	} {
		i := edges[k]
		if got, err := header.Turn(noughts, i); got != want || err != api.OK {
			t.Errorf("Turn of noughts at %d = %v, %d", i, got, err)
		}
		if got, err := header.Turn(want, i); got != noughts || err != api.OK {
			t.Errorf("Turn(%v, %d) = %v, %d", want, i, got, err)
		}
		for j := range 104 {
			one := 0
			if i == j {
				one = 1
			}
			if got, err := header.Bit(want, j); got != one || err != api.OK {
				t.Errorf("Bit(%v, %d) = %d, %d", want, j, got, err)
			}
		}
	}
}

func TestBitsThatAreNot(t *testing.T) {
	for _, i := range []int{math.MinInt, math.MinInt32, -104, -103, -8, -2, -1, 104, 105, 111, 112, 128, 256, 360, math.MaxInt32, math.MaxInt} {
		for _, h := range []api.Header{noughts, web, greatest} {
			if got, err := header.Bit(h, i); got != 0 || err != api.ErrArg {
				t.Errorf("Bit(%v, %d) = %d, %d", h, i, got, err)
			}
			if got, err := header.Turn(h, i); got != noughts || err != api.ErrArg {
				t.Errorf("Turn(%v, %d) = %v, %d", h, i, got, err)
			}
		}
	}
}

// P6.3

func TestCompare(t *testing.T) {
	list := some()
	for _, a := range list {
		for _, b := range list {
			if got, want := header.Compare(a, b), inOrder(a, b); got != want {
				t.Errorf("Compare(%v, %v) = %d, want %d", a, b, got, want)
			}
		}
	}
}

// A field decides only where those ahead of it are the same, however the ones behind it stand.
func TestCompareByTheFirstFieldThatDiffers(t *testing.T) {
	rising := []api.Header{
		noughts, head(0, 0, 0, 0, 1), head(0, 0, 0, 0, 128), head(0, 0, 0, 0, 255),
		head(0, 0, 0, 1, 0), head(0, 0, 0, 255, 255), head(0, 0, 0, 256, 0), head(0, 0, 0, 0x8000, 0), head(0, 0, 0, 0xffff, 0xff),
		head(0, 0, 1, 0, 0), head(0, 0, 0xff, 9, 9), head(0, 0, 0x100, 0, 0), head(0, 0, 0xffff, 0xffff, 0xff),
		head(0, 1, 0, 0, 0), head(0, 0x7fffffff, 9, 9, 9), head(0, 0x80000000, 0, 0, 0), head(0, 0xffffffff, 0xffff, 0xffff, 0xff),
		head(1, 0, 0, 0, 0), head(0x7fffffff, 1, 1, 1, 1), head(0x80000000, 0, 0, 0, 0), head(0xffffffff, 0, 0, 0, 0), greatest,
	}
	for i, a := range rising {
		for k, b := range rising {
			if got, want := header.Compare(a, b), cmp.Compare(i, k); got != want {
				t.Errorf("Compare(%v, %v) = %d, want %d", a, b, got, want)
			}
		}
	}
}

func TestNext(t *testing.T) {
	for _, h := range some() {
		if h == greatest {
			continue
		}
		n := number(h)
		want := ofNumber(n.Add(n, big.NewInt(1)))
		if got, ok := header.Next(h); got != want || !ok {
			t.Errorf("Next(%v) = %v, %v, want %v", h, got, ok, want)
		}
	}
}

func TestNextCarries(t *testing.T) {
	for _, c := range []struct{ h, want api.Header }{
		{noughts, head(0, 0, 0, 0, 1)},
		{head(9, 8, 7, 6, 254), head(9, 8, 7, 6, 255)},
		{head(9, 8, 7, 6, 255), head(9, 8, 7, 7, 0)},
		{head(9, 8, 7, 0x00ff, 255), head(9, 8, 7, 0x0100, 0)},
		{head(9, 8, 7, 0xffff, 254), head(9, 8, 7, 0xffff, 255)},
		{head(9, 8, 7, 0xffff, 255), head(9, 8, 8, 0, 0)},
		{head(9, 8, 0x7fff, 0xffff, 255), head(9, 8, 0x8000, 0, 0)},
		{head(9, 8, 0xffff, 0xffff, 255), head(9, 9, 0, 0, 0)},
		{head(9, 0x00ffffff, 0xffff, 0xffff, 255), head(9, 0x01000000, 0, 0, 0)},
		{head(9, 0xffffffff, 0xffff, 0xffff, 255), head(10, 0, 0, 0, 0)},
		{head(0xfffffffe, 0xffffffff, 0xffff, 0xffff, 255), head(0xffffffff, 0, 0, 0, 0)},
		{head(0xffffffff, 0xffffffff, 0xffff, 0xffff, 254), greatest},
	} {
		if got, ok := header.Next(c.h); got != c.want || !ok {
			t.Errorf("Next(%v) = %v, %v, want %v", c.h, got, ok, c.want)
		}
	}
	if got, ok := header.Next(greatest); got != noughts || ok {
		t.Errorf("Next of the greatest = %v, %v", got, ok)
	}
}

// P6.4

func TestDiffer(t *testing.T) {
	list := some()
	for _, a := range list {
		own := digits(a)
		for _, b := range list {
			other, want := digits(b), -1
			for i := range own {
				if own[i] != other[i] {
					want = i
					break
				}
			}
			if got := header.Differ(a, b); got != want {
				t.Errorf("Differ(%v, %v) = %d, want %d", a, b, got, want)
			}
		}
	}
}

// Two that differ in the bit i alone, in it and in all bits behind it, in it and in the last one.
func TestDifferTellsTheFirstBit(t *testing.T) {
	for _, h := range []api.Header{noughts, web, greatest} {
		n := number(h)
		for i := range 104 {
			bit := new(big.Int).Lsh(big.NewInt(1), uint(103-i))
			behind := new(big.Int).Sub(new(big.Int).Lsh(bit, 1), big.NewInt(1))
			for _, flip := range []*big.Int{bit, behind, new(big.Int).Or(bit, big.NewInt(1))} {
				other := ofNumber(new(big.Int).Xor(n, flip))
				if got := header.Differ(h, other); got != i {
					t.Errorf("Differ(%v, %v) = %d, want %d", h, other, got, i)
				}
				if got := header.Differ(other, h); got != i {
					t.Errorf("Differ(%v, %v) = %d, want %d", other, h, got, i)
				}
			}
		}
		if got := header.Differ(h, h); got != -1 {
			t.Errorf("Differ of %v and itself = %d", h, got)
		}
	}
}

// P6.5

func TestOf(t *testing.T) {
	for _, h := range some() {
		if got, err := header.Of(h.Src, h.Dst, uint32(h.Sport), uint32(h.Dport), uint32(h.Proto)); got != h || err != api.OK {
			t.Errorf("Of the fields of %v = %v, %d", h, got, err)
		}
	}
}

func TestOfAnotherCount(t *testing.T) {
	few := []uint32{1, 2, 3, 4, 5, 6, 7, 8, 9, 10}
	wide := slices.Repeat([]uint32{math.MaxUint32}, 10)
	for n := range 11 {
		if n == 5 {
			continue
		}
		for _, l := range [][]uint32{few[:n], wide[:n]} {
			if got, err := header.Of(l...); got != noughts || err != api.ErrArg {
				t.Errorf("Of(%v) = %v, %d", l, got, err)
			}
		}
	}
	if got, err := header.Of(); got != noughts || err != api.ErrArg {
		t.Errorf("Of() = %v, %d", got, err)
	}
	if got, err := header.Of(nil...); got != noughts || err != api.ErrArg {
		t.Errorf("Of(nil...) = %v, %d", got, err)
	}
	if got, err := header.Of(make([]uint32, 4, 5)...); got != noughts || err != api.ErrArg {
		t.Errorf("Of four fields with room for a fifth = %v, %d", got, err)
	}
}

func TestOfFieldsThatAreTooGreat(t *testing.T) {
	most := []uint32{math.MaxUint32, math.MaxUint32, math.MaxUint16, math.MaxUint16, math.MaxUint8}
	if got, err := header.Of(most...); got != greatest || err != api.OK {
		t.Errorf("Of(%v) = %v, %d", most, got, err)
	}
	for _, base := range [][]uint32{make([]uint32, 5), {1, 2, 3, 4, 5}, most} {
		for field := 2; field < 5; field++ {
			for _, v := range []uint32{most[field] + 1, most[field] + 2, 2*most[field] + 1, 1 << 16, 1<<16 + 1, 1 << 24, 1 << 31, math.MaxUint32} {
				l := slices.Clone(base)
				l[field] = v
				if got, err := header.Of(l...); got != noughts || err != api.ErrHeaderField {
					t.Errorf("Of(%v) = %v, %d", l, got, err)
				}
			}
		}
	}
	for v := uint32(256); v <= 65535; v += 251 {
		if got, err := header.Of(1, 2, 3, 4, v); got != noughts || err != api.ErrHeaderField {
			t.Errorf("Of(1, 2, 3, 4, %d) = %v, %d", v, got, err)
		}
	}
}

func TestOfLeavesItsFields(t *testing.T) {
	for _, five := range [][]uint32{{1, 2, 3, 4, 5}, {1, 2, 65536, 4, 5}} {
		room := append(slices.Clone(five), 77, 78, 79)
		kept := slices.Clone(room)
		for _, n := range []int{0, 4, 5, 6} {
			header.Of(room[:n]...)
			if !slices.Equal(room, kept) {
				t.Fatalf("Of %d fields wrote: %v", n, room)
			}
		}
	}
	own := []uint32{1, 2, 3, 4, 5}
	got, _ := header.Of(own...)
	clear(own)
	if got != head(1, 2, 3, 4, 5) {
		t.Errorf("the header changed with the fields it came from: %v", got)
	}
}

// P6.6

func TestPackAndUnpackUndoOneAnother(t *testing.T) {
	for _, h := range some() {
		if back, err := header.Unpack(header.Pack(h)); back != h || err != api.OK {
			t.Errorf("%v comes back as %v, %d", h, back, err)
		}
	}
	for i := range 13 {
		for v := range 256 {
			b := slices.Repeat([]byte{0x5a}, 13)
			b[i] = byte(v)
			h, err := header.Unpack(b)
			if back := header.Pack(h); !slices.Equal(back, b) || err != api.OK {
				t.Errorf("% x come back as % x, %d", b, back, err)
			}
		}
	}
}

func TestTheOrderIsThatOfTheBytes(t *testing.T) {
	list := some()
	for _, a := range list {
		for _, b := range list {
			if got, want := header.Compare(a, b), slices.Compare(header.Pack(a), header.Pack(b)); got != want {
				t.Errorf("Compare(%v, %v) = %d, their bytes %d", a, b, got, want)
			}
		}
	}
}

func TestNextAddsOneToTheBytes(t *testing.T) {
	for _, h := range some() {
		next, ok := header.Next(h)
		if !ok {
			if h != greatest {
				t.Errorf("none behind %v", h)
			}
			continue
		}
		sum := new(big.Int).SetBytes(header.Pack(h))
		sum.Add(sum, big.NewInt(1))
		if got := new(big.Int).SetBytes(header.Pack(next)); got.Cmp(sum) != 0 {
			t.Errorf("behind %v stands %v", h, next)
		}
		if header.Compare(h, next) != -1 || header.Compare(next, h) != 1 {
			t.Errorf("%v does not stand ahead of its next, %v", h, next)
		}
	}
}

func TestTheOneAheadHasANought(t *testing.T) {
	list := some()
	for _, a := range list {
		for _, b := range list {
			i := header.Differ(a, b)
			if (i == -1) != (a == b) {
				t.Fatalf("Differ(%v, %v) = %d", a, b, i)
			}
			if i == -1 {
				continue
			}
			own, err1 := header.Bit(a, i)
			other, err2 := header.Bit(b, i)
			if err1 != api.OK || err2 != api.OK || cmp.Compare(own, other) != header.Compare(a, b) {
				t.Errorf("%v and %v first differ in %d, with %d and %d", a, b, i, own, other)
			}
		}
	}
}

func TestTurnDiffersInThatBitAlone(t *testing.T) {
	for _, h := range []api.Header{noughts, web, greatest} {
		for i := range 104 {
			turned, _ := header.Turn(h, i)
			if got := header.Differ(h, turned); got != i {
				t.Errorf("Turn(%v, %d) differs in %d first", h, i, got)
			}
			if back, err := header.Turn(turned, i); back != h || err != api.OK {
				t.Errorf("Turn(%v, %d), twice: %v, %d", h, i, back, err)
			}
		}
	}
}

// The chapter's table.

func TestExamples(t *testing.T) {
	want := []byte{0x0a, 0, 0, 1, 0xc0, 0xa8, 0, 2, 4, 0, 0, 0x50, 6}
	if got := header.Pack(web); !slices.Equal(got, want) {
		t.Errorf("Pack = % x", got)
	}
	for _, n := range []int{12, 14, 0} {
		if _, err := header.Unpack(make([]byte, n)); err != api.ErrHeaderSize {
			t.Errorf("Unpack of %d bytes: %d", n, err)
		}
	}
	for _, c := range []struct {
		i, bit int
		err    api.Errno
	}{{4, 1, api.OK}, {6, 1, api.OK}, {102, 1, api.OK}, {103, 0, api.OK}, {104, 0, api.ErrArg}, {-1, 0, api.ErrArg}} {
		if bit, err := header.Bit(web, c.i); bit != c.bit || err != c.err {
			t.Errorf("Bit at %d = %d, %d", c.i, bit, err)
		}
	}
	if got, _ := header.Turn(noughts, 31); got != (api.Header{Src: 1}) {
		t.Errorf("Turn at 31 = %v", got)
	}
	if got, _ := header.Turn(noughts, 103); got != (api.Header{Proto: 1}) {
		t.Errorf("Turn at 103 = %v", got)
	}
	if got, ok := header.Next(head(1, 2, 3, 4, 5)); got != head(1, 2, 3, 4, 6) || !ok {
		t.Errorf("Next = %v, %v", got, ok)
	}
	if got, ok := header.Next(head(1, 2, 3, 65535, 255)); got != head(1, 2, 4, 0, 0) || !ok {
		t.Errorf("Next = %v, %v", got, ok)
	}
	if got, ok := header.Next(greatest); got != noughts || ok {
		t.Errorf("Next of the greatest = %v, %v", got, ok)
	}
	if got := header.Differ(head(1, 2, 3, 4, 5), head(1, 2, 3, 4, 4)); got != 103 {
		t.Errorf("Differ = %d", got)
	}
	if got := header.Differ(head(1, 2, 3, 4, 5), head(1, 2, 3, 4, 5)); got != -1 {
		t.Errorf("Differ of one and itself = %d", got)
	}
	for _, c := range []struct {
		fields []uint32
		want   api.Header
		err    api.Errno
	}{{[]uint32{1, 2, 3, 4, 5}, head(1, 2, 3, 4, 5), api.OK}, {[]uint32{1, 2, 3, 4}, noughts, api.ErrArg}, {[]uint32{1, 2, 65536, 4, 5}, noughts, api.ErrHeaderField}, {[]uint32{1, 2, 3, 4, 256}, noughts, api.ErrHeaderField}} {
		if got, err := header.Of(c.fields...); got != c.want || err != c.err {
			t.Errorf("Of(%v) = %v, %d", c.fields, got, err)
		}
	}
}
