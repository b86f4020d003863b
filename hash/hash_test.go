package hash_test

import (
	"cmp"
	"iter"
	"maps"
	"math"
	"slices"
	"strconv"
	"testing"

	"quintet/api"
	"quintet/hash"
)

func proto(n uint8) api.Header { return api.Header{Proto: n} }

// edges are the headers whose fields are all 0, 1 or the greatest, each with each.
func edges() []api.Header {
	var list []api.Header
	for _, src := range []uint32{0, 1, math.MaxUint32} {
		for _, dst := range []uint32{0, 1, math.MaxUint32} {
			for _, sport := range []uint16{0, 1, math.MaxUint16} {
				for _, dport := range []uint16{0, 1, math.MaxUint16} {
					for _, proto := range []uint8{0, 1, math.MaxUint8} {
						list = append(list, api.Header{Src: src, Dst: dst, Sport: sport, Dport: dport, Proto: proto})
					}
				}
			}
		}
	}
	return list
}

// drawer gives numbers by a rule that goes all about, the same each time.
func drawer(state uint64) func(n int) int {
	return func(n int) int {
		state = state*6364136223846793005 + 1442695040888963407
		return int(state >> 33 % uint64(n))
	}
}

// drawn are n headers, no two the same.
func drawn(n int, seed uint64) []api.Header {
	draw := drawer(seed)
	seen := map[api.Header]int{}
	var list []api.Header
	for len(list) < n {
		h := api.Header{
			Src: uint32(draw(1 << 30)), Dst: uint32(draw(1 << 30)),
			Sport: uint16(draw(1 << 16)), Dport: uint16(draw(1 << 16)), Proto: uint8(draw(1 << 8)),
		}
		if seen[h] == 0 {
			list = append(list, h)
		}
		seen[h]++
	}
	return list
}

// order is that of headers, field by field.
func order(a, b api.Header) int {
	return cmp.Or(
		cmp.Compare(a.Src, b.Src), cmp.Compare(a.Dst, b.Dst),
		cmp.Compare(a.Sport, b.Sport), cmp.Compare(a.Dport, b.Dport), cmp.Compare(a.Proto, b.Proto),
	)
}

func made[V any](t *testing.T, most int) *hash.Table[V] {
	t.Helper()
	x, err := hash.New[V](most)
	if err != api.OK || x == nil {
		t.Fatalf("New(%d): %v, %d", most, x, err)
	}
	return x
}

func sameErr(t *testing.T, what string, got, want api.Errno) {
	t.Helper()
	if got != want {
		t.Errorf("%s: %d, wanted %d", what, got, want)
	}
}

func sameGet[V comparable](t *testing.T, x *hash.Table[V], k api.Header, v V, ok bool) {
	t.Helper()
	if got, is := x.Get(k); got != v || is != ok {
		t.Errorf("Get(%v) = %v, %v, wanted %v, %v", k, got, is, v, ok)
	}
}

// pair is what All gives at once.
type pair[V any] struct {
	head  api.Header
	value V
}

func pairs[V any](all iter.Seq2[api.Header, V]) []pair[V] {
	var list []pair[V]
	for h, v := range all {
		list = append(list, pair[V]{h, v})
	}
	return list
}

// model is what a table is to hold, and the most entries that there ever were.
type model[V comparable] struct {
	most int
	held map[api.Header]V
	peak int
}

func newModel[V comparable](most int) *model[V] {
	return &model[V]{most: most, held: map[api.Header]V{}}
}

func (m *model[V]) put(k api.Header, v V) api.Errno {
	if _, there := m.held[k]; !there && len(m.held) == m.most {
		return api.ErrHashFull
	}
	m.held[k] = v
	m.peak = max(m.peak, len(m.held))
	return api.OK
}

func (m *model[V]) remove(k api.Header) bool {
	_, there := m.held[k]
	delete(m.held, k)
	return there
}

func (m *model[V]) all() []pair[V] {
	var list []pair[V]
	for _, h := range slices.SortedFunc(maps.Keys(m.held), order) {
		list = append(list, pair[V]{h, m.held[h]})
	}
	return list
}

// both is a table and its model, to which the same is done.
type both[V comparable] struct {
	*testing.T
	x *hash.Table[V]
	m *model[V]
}

func newBoth[V comparable](t *testing.T, most int) *both[V] {
	t.Helper()
	return &both[V]{t, made[V](t, most), newModel[V](most)}
}

func (b *both[V]) put(k api.Header, v V) {
	b.Helper()
	if got, want := b.x.Put(k, v), b.m.put(k, v); got != want {
		b.Errorf("Put(%v, %v) = %d, wanted %d", k, v, got, want)
	}
	b.bounded(k)
}

func (b *both[V]) remove(k api.Header) {
	b.Helper()
	if got, want := b.x.Delete(k), b.m.remove(k); got != want {
		b.Errorf("Delete(%v) = %v, wanted %v", k, got, want)
	}
	b.bounded(k)
}

// bounded asks Len, Slots and Probes. "8, and 4 times the most entries" is taken as the greater one of the two, which is within their sum.
func (b *both[V]) bounded(heads ...api.Header) {
	b.Helper()
	if got := b.x.Len(); got != len(b.m.held) {
		b.Errorf("Len() = %d, wanted %d", got, len(b.m.held))
	}
	slots := b.x.Slots()
	if low, high := len(b.m.held)+2, max(8, 4*b.m.peak); slots < low || slots > high {
		b.Errorf("Slots() = %d, wanted %d to %d", slots, low, high)
	}
	for _, h := range heads {
		if got := b.x.Probes(h); got < 1 || got >= slots {
			b.Errorf("Probes(%v) = %d of %d slots", h, got, slots)
		}
	}
}

// alike holds all that the table tells, of these headers and of all that there are, against the model.
func (b *both[V]) alike(heads ...api.Header) {
	b.Helper()
	b.bounded(heads...)
	for _, h := range heads {
		v, ok := b.m.held[h]
		sameGet(b.T, b.x, h, v, ok)
	}
	want := b.m.all()
	for _, p := range want {
		sameGet(b.T, b.x, p.head, p.value, true)
		b.bounded(p.head)
	}
	all := b.x.All()
	for range 2 {
		if got := pairs(all); !slices.Equal(got, want) {
			b.Errorf("All() gives %v, wanted %v", got, want)
		}
	}
}

// P15.1

func TestNew(t *testing.T) {
	for _, most := range []int{math.MinInt, -65536, -2, -1, 0, 65537, 65538, 1 << 31, 1<<32 + 1, math.MaxInt} {
		if x, err := hash.New[int](most); x != nil || err != api.ErrArg {
			t.Errorf("New[int](%d) = %v, %d", most, x, err)
		}
		if x, err := hash.New[string](most); x != nil || err != api.ErrArg {
			t.Errorf("New[string](%d) = %v, %d", most, x, err)
		}
	}
	for _, most := range []int{1, 2, 3, 8, 65535, 65536} {
		newBoth[int](t, most).alike(edges()...)
		newBoth[string](t, most).alike(edges()...)
	}
}

func TestNothingIsDeletedFromANewTable(t *testing.T) {
	b := newBoth[int](t, 3)
	for _, h := range edges() {
		b.remove(h)
	}
	b.alike(edges()...)
}

// P15.2

func TestPutOfNewHeaders(t *testing.T) {
	heads := edges()
	b := newBoth[int](t, len(heads))
	for i, h := range heads {
		b.put(h, i+1)
		b.alike(heads...)
	}
}

func TestPutOfAHeaderThatIsThere(t *testing.T) {
	heads := edges()[:20]
	b := newBoth[string](t, 30)
	for _, h := range heads {
		b.put(h, "first")
	}
	for _, h := range heads {
		b.put(h, "second")
		b.alike(heads...)
	}
	if b.x.Len() != len(heads) {
		t.Errorf("Len() = %d", b.x.Len())
	}
	b.put(heads[3], "")
	sameGet(t, b.x, heads[3], "", true)
	b.alike(heads...)
}

func TestPutOfOneMoreThanMost(t *testing.T) {
	for _, most := range []int{1, 2, 5, 6, 7, 8, 11, 12, 13, 100} {
		heads := drawn(most+5, 15)
		b := newBoth[int](t, most)
		for i, h := range heads[:most] {
			b.put(h, i)
		}
		slots := b.x.Slots()
		for _, h := range heads[most:] {
			sameErr(t, "Put beyond most", b.x.Put(h, -1), api.ErrHashFull)
			b.alike(heads...)
		}
		if b.x.Slots() != slots {
			t.Errorf("most %d: refused, but of %d slots came %d", most, slots, b.x.Slots())
		}
		for i, h := range heads[:most] {
			sameErr(t, "Put of one that is there, when full", b.x.Put(h, i+1000), api.OK)
			b.m.put(h, i+1000)
		}
		b.alike(heads...)
		b.remove(heads[0])
		sameErr(t, "Put where there is room again", b.x.Put(heads[most], 5), api.OK)
		b.m.put(heads[most], 5)
		sameErr(t, "Put of the one that went", b.x.Put(heads[0], 5), api.ErrHashFull)
		b.alike(heads...)
	}
}

func TestGetAndDelete(t *testing.T) {
	heads := drawn(40, 2)
	there, never := heads[:20], heads[20:]
	b := newBoth[int](t, 100)
	for i, h := range there {
		b.put(h, i+7)
	}
	for _, h := range never {
		sameGet(t, b.x, h, 0, false)
		b.remove(h)
	}
	b.alike(heads...)
	for i, h := range there {
		sameGet(t, b.x, h, i+7, true)
		b.remove(h)
		sameGet(t, b.x, h, 0, false)
		b.remove(h)
		b.alike(heads...)
	}
	if b.x.Len() != 0 {
		t.Errorf("Len() = %d", b.x.Len())
	}
}

func TestPutBehindDelete(t *testing.T) {
	heads := drawn(12, 3)
	b := newBoth[int](t, 12)
	for round := range 50 {
		for i, h := range heads {
			b.put(h, 100*round+i)
		}
		b.alike(heads...)
		for i, h := range heads {
			if i%3 != round%3 {
				b.remove(h)
			}
		}
		b.alike(heads...)
	}
}

func TestTheValueIsTheLastOne(t *testing.T) {
	x := made[string](t, 1)
	sameErr(t, "Put", x.Put(proto(1), "old"), api.OK)
	if !x.Delete(proto(1)) {
		t.Error("Delete: it was not there")
	}
	sameGet(t, x, proto(1), "", false)
	sameErr(t, "Put", x.Put(proto(1), "new"), api.OK)
	sameGet(t, x, proto(1), "new", true)
}

// kind puts a value, which is not zero, and takes it out again.
func kind[V comparable](t *testing.T, v V) {
	t.Helper()
	var none V
	b := newBoth[V](t, 2)
	b.put(proto(9), v)
	b.put(proto(8), none)
	b.alike(proto(7), proto(8), proto(9))
	sameGet(t, b.x, proto(9), v, true)
	sameGet(t, b.x, proto(8), none, true)
	sameGet(t, b.x, proto(7), none, false)
	b.remove(proto(9))
	sameGet(t, b.x, proto(9), none, false)
	b.alike(proto(7), proto(8), proto(9))
}

func TestValuesOfSeveralKinds(t *testing.T) {
	kind(t, 5)
	kind(t, -5)
	kind(t, uint8(255))
	kind(t, 0.5)
	kind(t, 1+2i)
	kind(t, true)
	kind(t, "a text")
	kind(t, api.Rule{Id: 3})
	kind(t, [3]string{"a", "b", "c"})
	kind(t, proto(3))
	kind(t, &api.Fault{Line: 1})
	kind[error](t, api.ErrArg)
	kind(t, struct{}{})
}

func TestListsAndFunctionsAsValues(t *testing.T) {
	lists := made[[]int](t, 2)
	sameErr(t, "Put of a list", lists.Put(proto(1), []int{4, 5}), api.OK)
	if v, ok := lists.Get(proto(1)); !ok || !slices.Equal(v, []int{4, 5}) {
		t.Errorf("Get = %v, %v", v, ok)
	}
	if v, ok := lists.Get(proto(2)); ok || v != nil {
		t.Errorf("Get of none = %v, %v", v, ok)
	}
	calls := made[func() int](t, 2)
	sameErr(t, "Put of a function", calls.Put(proto(1), func() int { return 6 }), api.OK)
	if v, ok := calls.Get(proto(1)); !ok || v() != 6 {
		t.Errorf("Get of a function: %v", ok)
	}
	if !calls.Delete(proto(1)) || calls.Delete(proto(1)) {
		t.Error("Delete of a function")
	}
}

// turned are a header and all those that differ from it in one bit of 104.
func turned(h api.Header) []api.Header {
	list := []api.Header{h}
	for i := range 32 {
		src, dst := h, h
		src.Src ^= 1 << i
		dst.Dst ^= 1 << i
		list = append(list, src, dst)
	}
	for i := range 16 {
		sport, dport := h, h
		sport.Sport ^= 1 << i
		dport.Dport ^= 1 << i
		list = append(list, sport, dport)
	}
	for i := range 8 {
		proto := h
		proto.Proto ^= 1 << i
		list = append(list, proto)
	}
	return list
}

func TestEveryBitOfAHeaderCounts(t *testing.T) {
	for _, h := range append(drawn(3, 4), edges()[0], edges()[242]) {
		heads := turned(h)
		b := newBoth[int](t, len(heads))
		for i, k := range heads {
			b.put(k, i+1)
		}
		b.alike()
		for _, k := range heads[1:] {
			b.remove(k)
		}
		b.alike(heads...)
		sameGet(t, b.x, h, 1, true)
	}
}

func TestFieldsAreNotExchanged(t *testing.T) {
	b := newBoth[int](t, 10)
	heads := []api.Header{
		{Src: 7}, {Dst: 7}, {Sport: 7}, {Dport: 7}, {Proto: 7},
		{Src: 1, Dst: 2}, {Src: 2, Dst: 1}, {Sport: 1, Dport: 2}, {Sport: 2, Dport: 1}, {Dport: 1 << 8}, {Sport: 1, Proto: 1},
	}
	for i, h := range heads[:5] {
		b.put(h, i)
		b.alike(heads...)
	}
	for i, h := range heads[5:10] {
		b.put(h, i+50)
		b.alike(heads...)
	}
}

// P15.3

func TestAllRises(t *testing.T) {
	rising := edges()
	for seed := range uint64(5) {
		draw := drawer(seed)
		heads := slices.Clone(rising)
		for i := range heads {
			j := i + draw(len(heads)-i)
			heads[i], heads[j] = heads[j], heads[i]
		}
		x := made[int](t, 300)
		for i, h := range heads {
			x.Put(h, i)
		}
		var got []api.Header
		for h, v := range x.All() {
			got = append(got, h)
			if heads[v] != h {
				t.Fatalf("All() gives %v with the value of %v", h, heads[v])
			}
		}
		if !slices.Equal(got, rising) {
			t.Errorf("All() gives %v", got)
		}
	}
}

func TestAllGoesBySrcFirst(t *testing.T) {
	want := []api.Header{
		{},
		{Proto: 255},
		{Dport: 1},
		{Dport: 256},
		{Sport: 1},
		{Sport: 256, Proto: 1},
		{Dst: 1},
		{Dst: 1 << 24},
		{Dst: 1 << 31},
		{Src: 1},
		{Src: 1, Dst: 1},
		{Src: 1 << 31},
	}
	x := made[string](t, 20)
	for i := range want {
		h := want[(i*5+3)%len(want)]
		x.Put(h, strconv.Itoa((i*5+3)%len(want)))
	}
	i := 0
	for h, v := range x.All() {
		if h != want[i] || v != strconv.Itoa(i) {
			t.Errorf("All() gives %v with %s at %d", h, v, i)
		}
		i++
	}
	if i != len(want) {
		t.Errorf("All() gives %d", i)
	}
}

func TestAllLeftEarly(t *testing.T) {
	b := newBoth[int](t, 10)
	for i, h := range drawn(10, 5) {
		b.put(h, i)
	}
	want := b.m.all()
	all := b.x.All()
	for n := 1; n <= len(want); n++ {
		var got []pair[int]
		for h, v := range all {
			got = append(got, pair[int]{h, v})
			if len(got) == n {
				break
			}
		}
		if !slices.Equal(got, want[:n]) {
			t.Errorf("All() left behind %d gave %v", n, got)
		}
	}
	b.alike()
}

func TestAllCallsNoMoreOnceItIsLeft(t *testing.T) {
	x := made[int](t, 10)
	for i, h := range drawn(10, 6) {
		x.Put(h, i)
	}
	calls := 0
	x.All()(func(api.Header, int) bool {
		calls++
		return calls < 4
	})
	if calls != 4 {
		t.Errorf("All() called %d times, wanted 4", calls)
	}
}

func TestAllWithinItself(t *testing.T) {
	b := newBoth[int](t, 5)
	for i, h := range drawn(5, 7) {
		b.put(h, i)
	}
	want := b.m.all()
	all := b.x.All()
	outer := 0
	for h, v := range all {
		if (pair[int]{h, v}) != want[outer] {
			t.Errorf("All() gives %v, %d at %d", h, v, outer)
		}
		if got := pairs(all); !slices.Equal(got, want) {
			t.Errorf("All() within itself gives %v", got)
		}
		outer++
	}
	if outer != len(want) {
		t.Errorf("All() gave %d around itself", outer)
	}
}

func TestAllWhileTheTableChanges(t *testing.T) {
	heads := drawn(400, 8)
	for _, change := range []func(x *hash.Table[int]){
		func(x *hash.Table[int]) {
			for _, h := range heads {
				x.Delete(h)
			}
		},
		func(x *hash.Table[int]) {
			for i, h := range heads {
				x.Put(h, i)
			}
		},
		func(x *hash.Table[int]) { // sweeps a great table into a small one
			for _, h := range heads {
				x.Delete(h)
			}
			for _, h := range heads {
				x.Put(h, 1)
				x.Delete(h)
			}
		},
	} {
		for _, n := range []int{1, 5, 300} {
			x := made[int](t, 1000)
			for i, h := range heads[:n] {
				x.Put(h, i)
			}
			given := 0
			for range x.All() { // what it gives is not promised, but that it ends
				if given < 3 {
					change(x)
				}
				given++
			}
			if given > 1000 {
				t.Errorf("All() gave %d", given)
			}
		}
	}
}

func TestLenAndAllBehindEachCall(t *testing.T) {
	b := newBoth[string](t, 2)
	heads := []api.Header{proto(0), proto(6), proto(7)}
	b.alike(heads...)
	b.put(proto(6), "six")
	b.alike(heads...)
	b.put(proto(0), "nought")
	b.alike(heads...)
	b.put(proto(7), "one too many")
	b.alike(heads...)
	b.put(proto(6), "another six")
	b.alike(heads...)
	b.remove(proto(7))
	b.alike(heads...)
	b.remove(proto(0))
	b.alike(heads...)
	b.remove(proto(0))
	b.alike(heads...)
	b.put(proto(7), "seven")
	b.alike(heads...)
	b.x.Get(proto(7))
	b.x.Probes(proto(7))
	b.alike(heads...)
}

// P15.4

func TestSlotsWhileEntriesComeAndGoOneByOne(t *testing.T) {
	b := newBoth[int](t, 5)
	never := edges()
	for i, h := range drawn(5000, 9) {
		b.put(h, i)
		b.bounded(never[i%len(never)], proto(77))
		b.remove(h)
		b.bounded(never[i%len(never)], proto(77))
	}
	if b.x.Slots() > 8 {
		t.Errorf("one entry at a time, but %d slots", b.x.Slots())
	}
	b.alike(never...)
}

func TestSlotsWhileAWindowMovesOn(t *testing.T) {
	heads := drawn(3000, 10)
	never := edges()
	for _, width := range []int{1, 2, 3, 5, 6, 7, 12, 13, 24, 25, 50, 200} {
		b := newBoth[int](t, 1000)
		for i, h := range heads {
			if i >= width {
				b.remove(heads[i-width])
				b.bounded(never[i%len(never)])
			}
			b.put(h, i)
			b.bounded(never[i%len(never)])
		}
		b.alike(never...)
	}
}

func TestSlotsWhileTablesAreFilledAndEmptied(t *testing.T) {
	heads := drawn(300, 11)
	b := newBoth[int](t, 300)
	for _, n := range []int{1, 6, 7, 2, 12, 13, 1, 40, 3, 100, 300, 5, 1, 300} {
		for i, h := range heads[:n] {
			b.put(h, i)
			b.bounded(heads[0], heads[299])
		}
		b.alike(heads...)
		for _, h := range heads[:n] {
			b.remove(h)
			b.bounded(heads[0], heads[299])
		}
		b.alike(heads...)
	}
}

func TestTheGreatestTable(t *testing.T) {
	heads := drawn(api.MaxHash+1000, 12)
	there, never := heads[:api.MaxHash], heads[api.MaxHash:]
	b := newBoth[int](t, api.MaxHash)
	for i, h := range there {
		b.put(h, i)
		b.bounded(there[i/2], never[i%len(never)])
	}
	for _, h := range never {
		sameErr(t, "Put beyond the greatest most", b.x.Put(h, -1), api.ErrHashFull)
	}
	sameErr(t, "Put of one that is there", b.x.Put(there[0], 0), api.OK)
	b.alike(never...)
	for i, h := range there[:api.MaxHash-10] {
		b.remove(h)
		b.bounded(there[api.MaxHash-1], never[i%len(never)])
	}
	b.alike(heads...)
	for i, h := range never {
		b.put(h, i)
	}
	b.alike(heads...)
}

// Headers as rules have them, whose fields differ in some bits next to one another, are to be scattered too: else tables would be slow.
func TestProbesAreFew(t *testing.T) {
	const many = 20000
	for name, head := range map[string]func(i uint32) api.Header{
		"Src, low bits":          func(i uint32) api.Header { return api.Header{Src: i} },
		"Src, high bits":         func(i uint32) api.Header { return api.Header{Src: i << 12} },
		"Dst, low bits":          func(i uint32) api.Header { return api.Header{Dst: i} },
		"Dst, high bits":         func(i uint32) api.Header { return api.Header{Dst: i << 17} },
		"both addresses alike":   func(i uint32) api.Header { return api.Header{Src: i, Dst: i} },
		"Sport":                  func(i uint32) api.Header { return api.Header{Sport: uint16(i)} },
		"Dport":                  func(i uint32) api.Header { return api.Header{Dport: uint16(i)} },
		"both ports alike":       func(i uint32) api.Header { return api.Header{Sport: uint16(i), Dport: uint16(i)} },
		"Proto and an address":   func(i uint32) api.Header { return api.Header{Dst: i >> 8 << 24, Src: i >> 8, Proto: uint8(i)} },
		"bits that cancel out":   func(i uint32) api.Header { return api.Header{Dst: i << 8, Dport: uint16(i)} },
		"addresses, port, Proto": func(i uint32) api.Header { return api.Header{Src: i, Dst: ^i, Dport: uint16(i), Proto: uint8(i)} },
	} {
		x := made[uint32](t, many)
		for i := range uint32(many) {
			sameErr(t, name, x.Put(head(i), i), api.OK)
		}
		probes := 0
		for i := range uint32(many) {
			probes += x.Probes(head(i)) + x.Probes(api.Header{Src: 1<<31 + i, Dst: 5 * i, Sport: 3})
		}
		if probes > 2*many*8 {
			t.Errorf("%s: %d probes in %d searches", name, probes, 2*many)
		}
	}
}

// P15.5

func TestAThirdHeaderSeesNothing(t *testing.T) {
	heads := append(edges()[:12], drawn(12, 13)...)
	for i, first := range heads {
		for j, second := range heads {
			if i == j {
				continue
			}
			b := newBoth[int](t, 10)
			b.put(first, 5)
			b.remove(second)
			b.alike(heads...)
			b.put(second, 6)
			b.alike(heads...)
			b.remove(first)
			b.alike(heads...)
			b.put(first, 7)
			b.remove(second)
			b.alike(heads...)
		}
	}
}

// Six of eight slots are spent, so that searches meet; whatever is deleted, the rest is to be found, and put again none stands twice.
func TestWhateverIsDeletedTheRestIsFound(t *testing.T) {
	const many = 6
	for seed := range uint64(20) {
		heads := drawn(many+3, 100+seed)
		for gone := range 1 << many {
			b := newBoth[int](t, many)
			for i, h := range heads[:many] {
				b.put(h, i+1)
			}
			for i, h := range heads[:many] {
				if gone>>i&1 == 1 {
					b.remove(h)
				}
			}
			b.alike(heads...)
			for i, h := range heads[:many] {
				b.put(h, i+50)
			}
			b.alike(heads...)
			for _, h := range heads[:many] {
				b.remove(h)
			}
			b.alike(heads...)
		}
	}
}

// wander does this and that, by few headers so that they come and go often, and holds all against the model.
func wander(t *testing.T, most, heads, steps int, seed uint64) {
	draw := drawer(seed)
	list := drawn(heads, seed+1)
	b := newBoth[int](t, most)
	for i := range steps {
		h := list[draw(heads)]
		switch draw(2) {
		case 0:
			b.put(h, i)
		case 1:
			b.remove(h)
		}
		b.bounded(list[draw(heads)], list[draw(heads)])
		if i%10 == 0 {
			b.alike(list...)
		}
		if t.Failed() {
			t.Fatalf("most %d, %d headers, seed %d, step %d", most, heads, seed, i)
		}
	}
}

func TestWander(t *testing.T) {
	for seed := range uint64(5) {
		wander(t, 1, 3, 500, seed)
		wander(t, 6, 9, 3000, seed)
		wander(t, 12, 20, 3000, seed)
		wander(t, 100, 60, 3000, seed)
		wander(t, 30, 400, 3000, seed)
		wander(t, 65536, 500, 1000, seed)
	}
}

// R1, R2

func TestTablesKnowNothingOfOneAnother(t *testing.T) {
	heads := drawn(30, 14)
	one, other, third := newBoth[int](t, 30), newBoth[int](t, 10), newBoth[int](t, 30)
	for i, h := range heads {
		one.put(h, i)
		if i%2 == 0 {
			other.put(h, -i)
		}
		if i%3 == 0 {
			one.remove(heads[i/2])
		}
		third.remove(h)
		one.alike(heads...)
		other.alike(heads...)
		third.alike(heads...)
	}
}

func TestTheSameCallsAreAnsweredAlike(t *testing.T) {
	draw := drawer(3)
	heads := drawn(60, 15)
	x, y := made[int](t, 40), made[int](t, 40)
	for i := range 5000 {
		h, asked := heads[draw(len(heads))], heads[draw(len(heads))]
		if draw(3) == 0 {
			if x.Delete(h) != y.Delete(h) {
				t.Fatalf("Delete differs at step %d", i)
			}
		} else if x.Put(h, i) != y.Put(h, i) {
			t.Fatalf("Put differs at step %d", i)
		}
		if x.Slots() != y.Slots() || x.Probes(asked) != y.Probes(asked) || x.Probes(asked) != x.Probes(asked) {
			t.Fatalf("Slots or Probes differ at step %d", i)
		}
	}
}

func TestATableThatNewDidNotMake(t *testing.T) {
	x := new(hash.Table[int])
	for _, h := range edges() {
		sameErr(t, "Put", x.Put(h, 1), api.ErrHashFull)
		sameGet(t, x, h, 0, false)
		if x.Delete(h) || x.Probes(h) != 0 {
			t.Error("Delete or Probes")
		}
	}
	if x.Len() != 0 || x.Slots() != 0 || pairs(x.All()) != nil {
		t.Error("Len, Slots or All")
	}
}

// R3

func nilTable[V comparable](t *testing.T, v V) {
	t.Helper()
	var x *hash.Table[V]
	var none V
	for _, h := range append(edges(), drawn(5, 16)...) {
		sameErr(t, "Put", x.Put(h, v), api.ErrNil)
		sameErr(t, "Put", x.Put(h, none), api.ErrNil)
		sameGet(t, x, h, none, false)
		if x.Delete(h) {
			t.Error("Delete of nil")
		}
		if n := x.Probes(h); n != 0 {
			t.Errorf("Probes of nil: %d", n)
		}
	}
	if x.Len() != 0 || x.Slots() != 0 {
		t.Errorf("nil: Len %d, Slots %d", x.Len(), x.Slots())
	}
	all := x.All()
	if all == nil {
		t.Fatal("All of nil is nil")
	}
	for range 2 {
		for h, v := range all {
			t.Errorf("All of nil gives %v, %v", h, v)
		}
	}
}

func TestNilTable(t *testing.T) {
	nilTable(t, 5)
	nilTable(t, "a text")
	nilTable(t, api.Rule{Id: 5})
}

// The chapter's table of examples, row by row.
func TestExamples(t *testing.T) {
	for _, most := range []int{0, 65537} {
		if x, err := hash.New[int](most); x != nil || err != api.ErrArg {
			t.Errorf("New[int](%d) = %v, %d", most, x, err)
		}
	}
	x := made[int](t, 2)

	sameErr(t, "Put(the header of noughts, 5)", x.Put(api.Header{}, 5), api.OK)
	sameErr(t, "Put(Proto 6, 7)", x.Put(proto(6), 7), api.OK)
	sameErr(t, "Put(Proto 7, 8)", x.Put(proto(7), 8), api.ErrHashFull)

	sameErr(t, "Put(Proto 6, 9)", x.Put(proto(6), 9), api.OK)
	sameGet(t, x, proto(6), 9, true)
	sameGet(t, x, proto(7), 0, false)
	if x.Len() != 2 {
		t.Errorf("Len() = %d", x.Len())
	}

	want := []pair[int]{{api.Header{}, 5}, {proto(6), 9}}
	if got := pairs(x.All()); !slices.Equal(got, want) {
		t.Errorf("All() gives %v", got)
	}

	if !x.Delete(proto(6)) || x.Delete(proto(6)) || x.Len() != 1 {
		t.Errorf("Delete(Proto 6) twice, or Len() = %d", x.Len())
	}
}
