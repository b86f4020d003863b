package trie_test

import (
	"iter"
	"maps"
	"math"
	"slices"
	"sort"
	"strconv"
	"strings"
	"testing"

	"quintet/api"
	"quintet/trie"
)

// widths are all that there are.
var widths = []int{8, 16, 32}

func entry(key uint32, n, v int) api.Entry { return api.Entry{Key: key, Len: n, Value: v} }

// made is a trie with these keys, put one behind the other.
func made(t *testing.T, width, most int, list ...api.Entry) *trie.Trie {
	t.Helper()
	x, err := trie.New(width, most)
	if err != api.OK || x == nil {
		t.Fatalf("New(%d, %d): %v, %d", width, most, x, err)
	}
	for _, e := range list {
		if err := x.Put(e.Key, e.Len, e.Value); err != api.OK {
			t.Fatalf("Put(%x, %d, %d): %d", e.Key, e.Len, e.Value, err)
		}
	}
	return x
}

func sameErr(t *testing.T, what string, got, want api.Errno) {
	t.Helper()
	if got != want {
		t.Errorf("%s: %d, wanted %d", what, got, want)
	}
}

func sameSize(t *testing.T, what string, x *trie.Trie, nodes, arena int) {
	t.Helper()
	if x.Nodes() != nodes || x.Arena() != arena {
		t.Errorf("%s: %d nodes and an arena of %d, wanted %d and %d", what, x.Nodes(), x.Arena(), nodes, arena)
	}
}

// gives asks an iterator twice, since it is to begin anew each time.
func gives(t *testing.T, what string, s iter.Seq[api.Entry], want ...api.Entry) {
	t.Helper()
	if s == nil {
		t.Fatalf("%s: nil", what)
	}
	for range 2 {
		if got := slices.Collect(s); !slices.Equal(got, want) {
			t.Errorf("%s: %v, wanted %v", what, got, want)
		}
	}
}

func sameGet(t *testing.T, x *trie.Trie, key uint32, n, v int, ok bool) {
	t.Helper()
	if got, is := x.Get(key, n); got != v || is != ok {
		t.Errorf("Get(%x, %d) = %d, %v, wanted %d, %v", key, n, got, is, v, ok)
	}
}

func sameLongest(t *testing.T, x *trie.Trie, key uint32, want api.Entry, ok bool) {
	t.Helper()
	if got, is := x.Longest(key); got != want || is != ok {
		t.Errorf("Longest(%x) = %v, %v, wanted %v, %v", key, got, is, want, ok)
	}
}

// model is what a trie is to hold: keys as texts of noughts and ones, as long as the key is. Of these all is told by what texts are.
type model struct {
	width, most int
	held        map[string]int
	arena       int
}

func newModel(width, most int) *model {
	return &model{width: width, most: most, held: map[string]int{}}
}

// textOf is the key as a text, and whether it may be.
func (m *model) textOf(key uint32, n int) (string, bool) {
	text := strconv.FormatUint(uint64(key), 2)
	if len(text) < m.width {
		text = strings.Repeat("0", m.width-len(text)) + text
	}
	if len(text) > m.width || n < 0 || n > m.width || strings.Contains(text[n:], "1") {
		return "", false
	}
	return text[:n], true
}

func (m *model) entryOf(text string) api.Entry {
	key, err := strconv.ParseUint(text+strings.Repeat("0", m.width-len(text)), 2, 32)
	if err != nil {
		panic(err)
	}
	return entry(uint32(key), len(text), m.held[text])
}

func nodesOf(held map[string]int) int {
	nodes := map[string]int{}
	for text := range held {
		for n := range len(text) + 1 {
			nodes[text[:n]]++
		}
	}
	return len(nodes)
}

func (m *model) nodes() int { return nodesOf(m.held) }

func (m *model) put(key uint32, n, v int) api.Errno {
	text, ok := m.textOf(key, n)
	if !ok {
		return api.ErrTrieKey
	}
	next := maps.Clone(m.held)
	next[text] = v
	if nodesOf(next) > m.most {
		return api.ErrTrieFull
	}
	m.held = next
	m.arena = max(m.arena, m.nodes())
	return api.OK
}

func (m *model) cut(key uint32, n int) api.Errno {
	text, ok := m.textOf(key, n)
	if !ok {
		return api.ErrTrieKey
	}
	if _, ok := m.held[text]; !ok {
		return api.ErrTrieNone
	}
	delete(m.held, text)
	return api.OK
}

func (m *model) get(key uint32, n int) (int, bool) {
	text, ok := m.textOf(key, n)
	if !ok {
		return 0, false
	}
	v, ok := m.held[text]
	return v, ok
}

func (m *model) above(key uint32, n int) []api.Entry {
	text, ok := m.textOf(key, n)
	if !ok {
		return nil
	}
	var list []api.Entry
	for n := range len(text) + 1 {
		if _, ok := m.held[text[:n]]; ok {
			list = append(list, m.entryOf(text[:n]))
		}
	}
	return list
}

func (m *model) longest(key uint32) (api.Entry, bool) {
	list := m.above(key, m.width)
	if len(list) == 0 {
		return api.Entry{}, false
	}
	return list[len(list)-1], true
}

func (m *model) walk() []api.Entry {
	var list []api.Entry
	for text := range m.held {
		list = append(list, m.entryOf(text))
	}
	sort.Slice(list, func(i, j int) bool {
		if list[i].Key != list[j].Key {
			return list[i].Key < list[j].Key
		}
		return list[i].Len < list[j].Len
	})
	return list
}

// alike holds a trie against its model in all that it says of itself as a whole.
func alike(t *testing.T, what string, x *trie.Trie, m *model) {
	t.Helper()
	sameSize(t, what, x, m.nodes(), m.arena)
	gives(t, what+": Walk", x.Walk(), m.walk()...)
}

// alikeAt holds a trie against its model in all that it says of a key.
func alikeAt(t *testing.T, x *trie.Trie, m *model, key uint32, n int) {
	t.Helper()
	v, ok := m.get(key, n)
	sameGet(t, x, key, n, v, ok)
	e, ok := m.longest(key)
	sameLongest(t, x, key, e, ok)
	gives(t, "Above", x.Above(key, n), m.above(key, n)...)
}

// drawer gives numbers by a rule that goes all about, the same each time.
func drawer(state uint64) func(n int) int {
	return func(n int) int {
		state = state*6364136223846793005 + 1442695040888963407
		return int(state >> 33 % uint64(n))
	}
}

// top is the word of this width whose first bit alone is 1.
func top(width int) uint32 { return 1 << (width - 1) }

// last is the greatest word of this width.
func last(width int) uint32 { return uint32(1<<width - 1) }

type key struct {
	word uint32
	n    int
}

// wrongKeys are keys that may not be.
func wrongKeys(width int) []key {
	list := []key{
		{0, -1}, {0, width + 1}, {0, math.MinInt}, {0, math.MaxInt}, {0, 2 * width}, {0, 64}, {0, -width},
		{top(width), 0}, {top(width), -1}, {last(width), width + 1}, {last(width), width - 1}, {last(width), 0},
		{1, 0}, {1, 1}, {1, width - 1}, {1, width / 2}, {top(width) >> 1, 1}, {3 << (width - 3), 2},
	}
	if width < 32 {
		beyond := last(width) + 1
		list = append(list, key{beyond, 0}, key{beyond, 1}, key{beyond, width}, key{beyond, 32}, key{beyond | 1, width},
			key{beyond | top(width), width}, key{beyond << 1, width}, key{math.MaxUint32, width}, key{1 << 31, 1}, key{1 << 31, 0}, key{1 << 31, width})
	}
	return list
}

// rightKeys are keys that may be: of length 0, of the width and amid them.
func rightKeys(width int) []key {
	return []key{
		{0, 0}, {0, 1}, {0, width}, {0, width - 1}, {top(width), 1}, {top(width), 2}, {top(width), width},
		{1, width}, {2, width - 1}, {last(width), width}, {last(width) - 1, width - 1}, {last(width) - 1, width}, {5 << (width - 3), 3}, {3 << (width - 2), 2},
	}
}

// P12.1

func TestNew(t *testing.T) {
	for _, width := range []int{8, 16, 32} {
		for _, most := range []int{0, 1, 2, 1048575, 1048576} {
			if x, err := trie.New(width, most); x == nil || err != api.OK {
				t.Errorf("New(%d, %d) = %v, %d", width, most, x, err)
			}
		}
		for _, most := range []int{-1, 1048577, 1 << 21, 1 << 32, math.MinInt, math.MaxInt} {
			if x, err := trie.New(width, most); x != nil || err != api.ErrArg {
				t.Errorf("New(%d, %d) = %v, %d", width, most, x, err)
			}
		}
	}
	for _, width := range []int{7, 9, 0, -8, 64, 1, 15, 17, 24, 31, 33, -1, -16, -32, 4, 128, 8 + 1<<32, math.MinInt, math.MaxInt} {
		for _, most := range []int{0, 5, 1048576, -1, 1048577} {
			if x, err := trie.New(width, most); x != nil || err != api.ErrArg {
				t.Errorf("New(%d, %d) = %v, %d", width, most, x, err)
			}
		}
	}
}

func TestANewTrieHoldsNothing(t *testing.T) {
	for _, width := range widths {
		for _, most := range []int{0, 1, 1048576} {
			x, m := made(t, width, most), newModel(width, most)
			alike(t, "new", x, m)
			for _, k := range rightKeys(width) {
				alikeAt(t, x, m, k.word, k.n)
				sameErr(t, "Cut", x.Cut(k.word, k.n), api.ErrTrieNone)
			}
			sameSize(t, "behind all", x, 0, 0)
		}
	}
}

// P12.2

func TestPutAndCutOfKeysThatMayBe(t *testing.T) {
	for _, width := range widths {
		for _, k := range rightKeys(width) {
			for _, v := range []int{0, -1, 7, math.MinInt, math.MaxInt} {
				x := made(t, width, 40)
				sameErr(t, "Put", x.Put(k.word, k.n, v), api.OK)
				sameSize(t, "behind Put", x, k.n+1, k.n+1)
				gives(t, "Walk", x.Walk(), entry(k.word, k.n, v))
				gives(t, "Above", x.Above(k.word, k.n), entry(k.word, k.n, v))
				sameGet(t, x, k.word, k.n, v, true)
				sameLongest(t, x, k.word, entry(k.word, k.n, v), true)
				sameErr(t, "Cut", x.Cut(k.word, k.n), api.OK)
				sameSize(t, "behind Cut", x, 0, k.n+1)
				gives(t, "Walk behind Cut", x.Walk())
				sameGet(t, x, k.word, k.n, 0, false)
				sameLongest(t, x, k.word, api.Entry{}, false)
				sameErr(t, "Cut again", x.Cut(k.word, k.n), api.ErrTrieNone)
			}
		}
	}
}

func TestKeysThatMayNotBe(t *testing.T) {
	for _, width := range widths {
		empty := made(t, width, 40)
		some := made(t, width, 100, entry(0, 0, 1), entry(0, width, 2), entry(last(width), width, 3), entry(top(width), 1, 4))
		full := made(t, width, width+1, entry(last(width), width, 3))
		none := made(t, width, 0)
		for _, x := range []*trie.Trie{empty, some, full, none} {
			nodes, arena, before := x.Nodes(), x.Arena(), slices.Collect(x.Walk())
			for _, k := range wrongKeys(width) {
				what := "key " + strconv.FormatUint(uint64(k.word), 16) + ", " + strconv.Itoa(k.n) + " of width " + strconv.Itoa(width)
				sameErr(t, what+": Put", x.Put(k.word, k.n, 9), api.ErrTrieKey)
				sameErr(t, what+": Cut", x.Cut(k.word, k.n), api.ErrTrieKey)
				sameGet(t, x, k.word, k.n, 0, false)
				gives(t, what+": Above", x.Above(k.word, k.n))
			}
			sameSize(t, "behind wrong keys", x, nodes, arena)
			gives(t, "Walk behind wrong keys", x.Walk(), before...)
		}
	}
}

func TestWordsAtTheWidth(t *testing.T) {
	for _, c := range []struct {
		width       int
		below, none uint32
	}{{8, 255, 256}, {16, 65535, 65536}} {
		x := made(t, c.width, 100, entry(0, 0, 6))
		sameErr(t, "Put", x.Put(c.below, c.width, 5), api.OK)
		sameErr(t, "Put", x.Put(c.none, c.width, 5), api.ErrTrieKey)
		sameErr(t, "Put", x.Put(c.none, 0, 5), api.ErrTrieKey)
		sameErr(t, "Cut", x.Cut(c.none, 0), api.ErrTrieKey)
		sameLongest(t, x, c.below, entry(c.below, c.width, 5), true)
		sameLongest(t, x, c.none, api.Entry{}, false)
		sameLongest(t, x, c.none+c.below, api.Entry{}, false)
		sameLongest(t, x, math.MaxUint32, api.Entry{}, false)
		gives(t, "Walk", x.Walk(), entry(0, 0, 6), entry(c.below, c.width, 5))
	}
}

func TestPutOfAHeldKey(t *testing.T) {
	for _, width := range widths {
		for _, k := range rightKeys(width) {
			x := made(t, width, k.n+1, entry(k.word, k.n, 1))
			for _, v := range []int{2, 0, -5, 0, math.MaxInt} {
				sameErr(t, "Put", x.Put(k.word, k.n, v), api.OK)
				sameSize(t, "behind Put", x, k.n+1, k.n+1)
				gives(t, "Walk", x.Walk(), entry(k.word, k.n, v))
			}
		}
	}
}

func TestPutWithinAndAboveHeldKeys(t *testing.T) {
	x := made(t, 8, 20, entry(0b10110000, 4, 1))
	sameSize(t, "one key", x, 5, 5)
	sameErr(t, "Put of one that begins it", x.Put(0b10000000, 2, 2), api.OK)
	sameSize(t, "a node that was there", x, 5, 5)
	sameErr(t, "Put of one that it begins", x.Put(0b10110100, 6, 3), api.OK)
	sameSize(t, "two more", x, 7, 7)
	sameErr(t, "Put of one beside it", x.Put(0b10111000, 6, 4), api.OK)
	sameSize(t, "two more", x, 9, 9)
	sameErr(t, "Put of one apart", x.Put(0, 1, 5), api.OK)
	sameSize(t, "one more", x, 10, 10)
	sameErr(t, "Put of the one of length 0", x.Put(0, 0, 6), api.OK)
	sameSize(t, "no more", x, 10, 10)
	gives(t, "Walk", x.Walk(), entry(0, 0, 6), entry(0, 1, 5), entry(0b10000000, 2, 2),
		entry(0b10110000, 4, 1), entry(0b10110100, 6, 3), entry(0b10111000, 6, 4))
}

func TestPutAtMost(t *testing.T) {
	for _, width := range widths {
		for _, k := range rightKeys(width) {
			x := made(t, width, k.n)
			for range 2 {
				sameErr(t, "Put at one above", x.Put(k.word, k.n, 1), api.ErrTrieFull)
				sameSize(t, "behind a Put that failed", x, 0, 0)
			}
			gives(t, "Walk", x.Walk())
			sameGet(t, x, k.word, k.n, 0, false)
			x = made(t, width, k.n+1)
			sameErr(t, "Put at just most", x.Put(k.word, k.n, 1), api.OK)
			sameSize(t, "full", x, k.n+1, k.n+1)
		}
	}
}

func TestAPutThatFailsLeavesAllAsItWas(t *testing.T) {
	x := made(t, 8, 6, entry(0b10100000, 3, 1), entry(0, 1, 2))
	m := newModel(8, 6)
	m.put(0b10100000, 3, 1)
	m.put(0, 1, 2)
	sameSize(t, "ahead", x, 5, 5)
	for range 3 {
		sameErr(t, "Put of two nodes more", x.Put(0b10101000, 5, 9), api.ErrTrieFull)
		sameErr(t, "Put of two nodes more", x.Put(0b01100000, 3, 9), api.ErrTrieFull)
		sameErr(t, "Put of five nodes more", x.Put(0b10111111, 8, 9), api.ErrTrieFull)
		alike(t, "behind", x, m)
		for k := range 256 {
			alikeAt(t, x, m, uint32(k), 8)
		}
	}
	sameErr(t, "Put of one node more", x.Put(0b10110000, 4, 9), api.OK)
	sameErr(t, "Put of one node more", x.Put(0b11000000, 2, 9), api.ErrTrieFull)
	sameErr(t, "Put of a node that is there", x.Put(0b10000000, 2, 3), api.OK)
	sameErr(t, "Put of a held key", x.Put(0b10100000, 3, 4), api.OK)
	sameSize(t, "full", x, 6, 6)
	gives(t, "Walk", x.Walk(), entry(0, 1, 2), entry(0b10000000, 2, 3), entry(0b10100000, 3, 4), entry(0b10110000, 4, 9))
	sameErr(t, "Cut", x.Cut(0, 1), api.OK)
	sameErr(t, "Put of one node more", x.Put(0b11000000, 2, 9), api.OK)
	sameSize(t, "full again", x, 6, 6)
}

func TestMostOfNoughtAndOne(t *testing.T) {
	for _, width := range widths {
		x := made(t, width, 0)
		sameErr(t, "Put(0, 0)", x.Put(0, 0, 1), api.ErrTrieFull)
		sameErr(t, "Put of what may not be", x.Put(0, -1, 1), api.ErrTrieKey)
		sameErr(t, "Cut", x.Cut(0, 0), api.ErrTrieNone)
		sameSize(t, "most 0", x, 0, 0)
		x = made(t, width, 1)
		sameErr(t, "Put(0, 1)", x.Put(0, 1, 1), api.ErrTrieFull)
		sameErr(t, "Put(0, 0)", x.Put(0, 0, 1), api.OK)
		sameErr(t, "Put(0, 0)", x.Put(0, 0, -1), api.OK)
		sameErr(t, "Put(0, 1)", x.Put(0, 1, 1), api.ErrTrieFull)
		sameSize(t, "most 1", x, 1, 1)
		sameLongest(t, x, last(width), entry(0, 0, -1), true)
	}
}

// A key that may not be is told ahead of a trie that is full; where nothing is held, too.
func TestWhichErrorComesFirst(t *testing.T) {
	full := made(t, 8, 1, entry(0, 0, 1))
	sameErr(t, "Put", full.Put(0b11000000, 1, 0), api.ErrTrieKey)
	sameErr(t, "Put", full.Put(0b11000000, 9, 0), api.ErrTrieKey)
	sameErr(t, "Put", full.Put(256, 8, 0), api.ErrTrieKey)
	sameErr(t, "Put", full.Put(0b11000000, 2, 0), api.ErrTrieFull)
	sameErr(t, "Cut", full.Cut(0b11000000, 1), api.ErrTrieKey)
	sameErr(t, "Cut", full.Cut(0b11000000, 2), api.ErrTrieNone)
}

func TestTheGreatestMost(t *testing.T) {
	x := made(t, 32, 1048576)
	for i := range 1 << 19 {
		if err := x.Put(uint32(i)<<13, 19, i); err != api.OK {
			t.Fatalf("Put of the key %d: %d", i, err)
		}
	}
	sameSize(t, "all keys of 19 bits", x, 1048575, 1048575)
	sameErr(t, "Put of two nodes more", x.Put(0, 21, 1), api.ErrTrieFull)
	sameErr(t, "Put of one node more", x.Put(1<<12, 20, -1), api.OK)
	sameErr(t, "Put of one node more", x.Put(1<<13, 20, 1), api.ErrTrieFull)
	sameErr(t, "Put of a held key", x.Put(0, 19, -2), api.OK)
	sameSize(t, "full", x, 1048576, 1048576)
	sameLongest(t, x, 1<<12+5, entry(1<<12, 20, -1), true)
	sameLongest(t, x, math.MaxUint32, entry(0x7ffff<<13, 19, 0x7ffff), true)
	told := 0
	for range x.Walk() {
		told++
	}
	if told != 1<<19+1 {
		t.Errorf("Walk told %d", told)
	}
	for i := range 1 << 19 {
		if err := x.Cut(uint32(i)<<13, 19); err != api.OK {
			t.Fatalf("Cut of the key %d: %d", i, err)
		}
	}
	sameSize(t, "all but one cut", x, 21, 1048576)
	gives(t, "Walk", x.Walk(), entry(1<<12, 20, -1))
}

func TestCutOfANodeThatIsNotHeld(t *testing.T) {
	x := made(t, 8, 20, entry(0b10110000, 4, 1), entry(0b10100000, 4, 2))
	for n, word := range []uint32{0, 0b10000000, 0b10000000, 0b10100000} {
		sameErr(t, "Cut of a node", x.Cut(word, n), api.ErrTrieNone)
	}
	for _, k := range []key{{0b10110000, 5}, {0b10111000, 5}, {0b10110000, 8}, {0, 1}, {0b11000000, 2}, {0b11111111, 8}} {
		sameErr(t, "Cut of no node", x.Cut(k.word, k.n), api.ErrTrieNone)
	}
	sameSize(t, "behind", x, 6, 6)
	gives(t, "Walk", x.Walk(), entry(0b10100000, 4, 2), entry(0b10110000, 4, 1))
}

func TestCutOfAKeyThatOthersLieUnder(t *testing.T) {
	x := made(t, 8, 20, entry(0, 0, 1), entry(0b10000000, 2, 2), entry(0b10110000, 4, 3), entry(0b10000001, 8, 4))
	sameSize(t, "ahead", x, 11, 11)
	sameErr(t, "Cut", x.Cut(0b10000000, 2), api.OK)
	sameSize(t, "behind", x, 11, 11)
	sameErr(t, "Cut again", x.Cut(0b10000000, 2), api.ErrTrieNone)
	sameGet(t, x, 0b10000000, 2, 0, false)
	sameErr(t, "Cut of the one of length 0", x.Cut(0, 0), api.OK)
	sameSize(t, "behind", x, 11, 11)
	gives(t, "Walk", x.Walk(), entry(0b10000001, 8, 4), entry(0b10110000, 4, 3))
	gives(t, "Above", x.Above(0b10110000, 8), entry(0b10110000, 4, 3))
}

func TestCutOfAKeyWhoseNodesAreSharedInPart(t *testing.T) {
	x := made(t, 8, 20, entry(0b10110000, 4, 1), entry(0b10111010, 8, 2), entry(0b10101000, 6, 3), entry(0b01000000, 2, 4))
	sameSize(t, "ahead", x, 14, 14)
	sameErr(t, "Cut of one under a held one", x.Cut(0b10111010, 8), api.OK)
	sameSize(t, "four nodes less", x, 10, 14)
	sameErr(t, "Cut of one under a fork", x.Cut(0b10101000, 6), api.OK)
	sameSize(t, "three nodes less", x, 7, 14)
	sameErr(t, "Cut of one under the root's fork", x.Cut(0b10110000, 4), api.OK)
	sameSize(t, "four nodes less", x, 3, 14)
	gives(t, "Walk", x.Walk(), entry(0b01000000, 2, 4))
	sameErr(t, "Cut of the last one", x.Cut(0b01000000, 2), api.OK)
	sameSize(t, "none", x, 0, 14)
	gives(t, "Walk", x.Walk())
	sameErr(t, "Cut of none", x.Cut(0b01000000, 2), api.ErrTrieNone)
}

// P12.3

func TestGet(t *testing.T) {
	for _, width := range widths {
		m, x := newModel(width, 1000), made(t, width, 1000)
		for i, k := range rightKeys(width) {
			sameErr(t, "Put", x.Put(k.word, k.n, i-4), m.put(k.word, k.n, i-4))
		}
		for i, k := range rightKeys(width) {
			sameGet(t, x, k.word, k.n, i-4, true)
			for n := -2; n <= width+2; n++ {
				v, ok := m.get(k.word, n)
				sameGet(t, x, k.word, n, v, ok)
			}
		}
		sameGet(t, x, 4<<(width-3), 3, 0, false) // a node that is not held
		sameGet(t, x, 1<<(width-3), 3, 0, false)
		sameGet(t, x, 7<<(width-3), 3, 0, false)
	}
}

func TestANodeThatIsNoLongerHeldHasNoValue(t *testing.T) {
	x := made(t, 16, 40, entry(0x8000, 1, 77), entry(0xffff, 16, 78))
	sameErr(t, "Cut", x.Cut(0x8000, 1), api.OK)
	sameGet(t, x, 0x8000, 1, 0, false)
	sameErr(t, "Cut", x.Cut(0xffff, 16), api.OK)
	sameErr(t, "Put", x.Put(0, 16, 5), api.OK)
	for n := range 16 {
		sameGet(t, x, 0, n, 0, false)
	}
	gives(t, "Walk", x.Walk(), entry(0, 16, 5))
}

func TestLongest(t *testing.T) {
	for _, width := range widths {
		x := made(t, width, 200)
		for n := range width + 1 {
			sameErr(t, "Put", x.Put(last(width)&^(last(width)>>n), n, 100+n), api.OK)
		}
		for n := range width { // the first n bits 1, then a nought, and then all else
			word := last(width) &^ (last(width) >> n)
			sameLongest(t, x, word, entry(word, n, 100+n), true)
			sameLongest(t, x, word|last(width)>>(n+1), entry(word, n, 100+n), true)
		}
		sameLongest(t, x, last(width), entry(last(width), width, 100+width), true)
		sameErr(t, "Cut", x.Cut(0, 0), api.OK)
		sameLongest(t, x, 0, api.Entry{}, false)
		sameLongest(t, x, top(width)-1, api.Entry{}, false)
		sameLongest(t, x, top(width), entry(top(width), 1, 101), true)
	}
}

func TestLongestWhereOnlyTheKeyOfLengthNoughtBegins(t *testing.T) {
	for _, width := range widths {
		for _, v := range []int{0, -3, 8} {
			x := made(t, width, 100, entry(0, 0, v), entry(last(width), width, 1), entry(top(width), 3, 2))
			for _, word := range []uint32{0, 1, top(width) - 1, 3 << (width - 2), last(width) - 1, 5 << (width - 3)} {
				sameLongest(t, x, word, entry(0, 0, v), true)
			}
		}
	}
}

func TestLongestWhereNoneBegins(t *testing.T) {
	for _, width := range widths {
		x := made(t, width, 100, entry(last(width), width, 1), entry(top(width), 3, 2), entry(0, width, 3))
		for _, word := range []uint32{1, top(width) - 1, 3 << (width - 2), last(width) - 1, 5 << (width - 3)} {
			sameLongest(t, x, word, api.Entry{}, false)
		}
	}
}

// P12.4

func TestAbove(t *testing.T) {
	x := made(t, 8, 40, entry(0b10100000, 3, 3), entry(0, 0, 0), entry(0b10100000, 8, 8), entry(0b10000000, 1, -1), entry(0b11000000, 2, 2), entry(0b10110000, 4, 4), entry(0, 5, 5))
	none, one, three, eight := entry(0, 0, 0), entry(0b10000000, 1, -1), entry(0b10100000, 3, 3), entry(0b10100000, 8, 8)
	gives(t, "of a held key", x.Above(0b10100000, 8), none, one, three, eight)
	gives(t, "of a held key", x.Above(0b10100000, 3), none, one, three)
	gives(t, "of a held key", x.Above(0, 0), none)
	gives(t, "of a key that is a node", x.Above(0b10100000, 7), none, one, three)
	gives(t, "of a key that is a node", x.Above(0b10000000, 2), none, one)
	gives(t, "of a key that is no node", x.Above(0b10101000, 5), none, one, three)
	gives(t, "of a key that is no node", x.Above(0b10001111, 8), none, one)
	gives(t, "of a key that is no node", x.Above(0b11100000, 3), none, one, entry(0b11000000, 2, 2))
	gives(t, "of a key that none but one begins", x.Above(0b01111111, 8), none)
	for _, k := range wrongKeys(8) {
		gives(t, "of a key that may not be", x.Above(k.word, k.n))
	}
	sameErr(t, "Cut", x.Cut(0, 0), api.OK)
	gives(t, "of a key that none begins", x.Above(0b01111111, 8))
	gives(t, "of a key that none begins", x.Above(0, 0))
}

// firsts leaves an iterator behind some entries.
func firsts(s iter.Seq[api.Entry], n int) []api.Entry {
	var list []api.Entry
	for e := range s {
		if len(list) == n {
			break
		}
		list = append(list, e)
	}
	return list
}

func TestIteratorsLeftEarlyAndRangedOverWithinThemselves(t *testing.T) {
	for _, width := range widths {
		x := made(t, width, 200, entry(0, 0, 1), entry(top(width), 1, 2), entry(top(width), 2, 3), entry(top(width), width, 4), entry(top(width)|1, width, 5), entry(last(width), width, 6), entry(0, width, 7))
		for _, c := range []struct {
			what string
			s    iter.Seq[api.Entry]
			n    int
		}{{"Above", x.Above(top(width), width), 4}, {"Walk", x.Walk(), 7}} {
			all := slices.Collect(c.s)
			if len(all) != c.n {
				t.Fatalf("%s gives %v", c.what, all)
			}
			for n := range all {
				if got := firsts(c.s, n); !slices.Equal(got, all[:n]) {
					t.Errorf("%s left behind %d: %v", c.what, n, got)
				}
			}
			outer := 0
			for e := range c.s {
				if e != all[outer] {
					t.Errorf("%s around itself: %v, wanted %v", c.what, e, all[outer])
				}
				gives(t, c.what+" within itself", c.s, all...)
				outer++
			}
			if outer != len(all) {
				t.Errorf("%s around itself gave %d", c.what, outer)
			}
			gives(t, c.what, c.s, all...)
		}
		sameSize(t, "behind", x, x.Nodes(), x.Nodes())
	}
}

func TestWalk(t *testing.T) {
	for _, width := range widths {
		x := made(t, width, 1000)
		gives(t, "of none", x.Walk())
		var same []api.Entry // of one word, in all its lengths
		for n := width; n >= 0; n-- {
			sameErr(t, "Put", x.Put(0, n, -n), api.OK)
			same = append([]api.Entry{entry(0, n, -n)}, same...)
		}
		gives(t, "of nought in all lengths", x.Walk(), same...)
		var tops []api.Entry
		for n := width; n >= 1; n-- {
			sameErr(t, "Put", x.Put(top(width), n, n), api.OK)
			tops = append([]api.Entry{entry(top(width), n, n)}, tops...)
		}
		sameErr(t, "Put", x.Put(1, width, 50), api.OK)
		sameErr(t, "Put", x.Put(last(width), width, 60), api.OK)
		want := slices.Concat(same, []api.Entry{entry(1, width, 50)}, tops, []api.Entry{entry(last(width), width, 60)})
		gives(t, "of two words in all lengths and two more", x.Walk(), want...)
	}
}

func TestWalkOfAllKeysOfEightBits(t *testing.T) {
	m, x := newModel(8, 511), made(t, 8, 511)
	for n := range 9 {
		for word := range 1 << n {
			if err := x.Put(uint32(word<<(8-n)), n, 1000*n+word); err != api.OK {
				t.Fatalf("Put: %d", err)
			}
			text, _ := m.textOf(uint32(word<<(8-n)), n)
			m.held[text] = 1000*n + word
		}
	}
	m.arena = 511
	alike(t, "all", x, m)
	for word := range 256 {
		for n := range 9 {
			alikeAt(t, x, m, uint32(word), n)
		}
	}
}

// What is given is not promised then, but that all ends and nothing panics.
func TestIteratorsWhileTheTrieChanges(t *testing.T) {
	for i, change := range []func(x *trie.Trie, e api.Entry){
		func(x *trie.Trie, e api.Entry) { x.Cut(e.Key, e.Len) },
		func(x *trie.Trie, e api.Entry) { x.Cut(0xffff, 16); x.Cut(0x8000, 1); x.Put(0x0001, 16, 9) },
		func(x *trie.Trie, e api.Entry) { x.Put(e.Key+1, 16, 3) },
		func(x *trie.Trie, e api.Entry) {
			for key := range uint32(65536) {
				x.Cut(key, 16)
			}
			x.Put(0x5555, 16, 1)
			x.Put(0xaaaa, 16, 1)
		},
	} {
		for _, ask := range []func(x *trie.Trie) iter.Seq[api.Entry]{
			func(x *trie.Trie) iter.Seq[api.Entry] { return x.Walk() },
			func(x *trie.Trie) iter.Seq[api.Entry] { return x.Above(0xffff, 16) },
		} {
			x := made(t, 16, 400, entry(0, 0, 1), entry(0x8000, 1, 2), entry(0xc000, 2, 3), entry(0xffff, 16, 4), entry(0xfffe, 16, 5), entry(0x1000, 16, 6))
			given := 0
			for e := range ask(x) {
				change(x, e)
				given++
			}
			if given == 0 || given > 1<<17 {
				t.Errorf("change %d: %d given", i, given)
			}
			before := slices.Collect(x.Walk()) // and the trie itself is whole
			for _, e := range before {
				sameErr(t, "Cut", x.Cut(e.Key, e.Len), api.OK)
			}
			if x.Nodes() != 0 {
				t.Errorf("change %d: %d nodes without keys", i, x.Nodes())
			}
		}
	}
}

// P12.5

func TestPlacesAreUsedAgain(t *testing.T) {
	for _, width := range widths {
		x := made(t, width, 1000)
		for round := range 50 {
			sameErr(t, "Put", x.Put(last(width), width, round), api.OK)
			sameErr(t, "Put", x.Put(0, width, round), api.OK)
			sameSize(t, "two keys", x, 2*width+1, 2*width+1)
			sameErr(t, "Cut", x.Cut(last(width), width), api.OK)
			sameSize(t, "one key", x, width+1, 2*width+1)
			sameErr(t, "Put", x.Put(uint32(round%8)<<(width-3), 3, round), api.OK)
			sameErr(t, "Cut", x.Cut(uint32(round%8)<<(width-3), 3), api.OK)
			sameErr(t, "Cut", x.Cut(0, width), api.OK)
			sameSize(t, "no key", x, 0, 2*width+1)
		}
		sameErr(t, "Put", x.Put(last(width), width, 0), api.OK)
		sameErr(t, "Put", x.Put(0, width, 0), api.OK)
		sameErr(t, "Put", x.Put(top(width), 2, 0), api.OK)
		sameSize(t, "one node more than ever before", x, 2*width+2, 2*width+2)
	}
}

func TestTheArenaGrowsOnlyWhereMoreNodesStandThanEver(t *testing.T) {
	x := made(t, 8, 100)
	sizes := []struct {
		put          bool
		word         uint32
		n            int
		nodes, arena int
	}{
		{true, 0b11110000, 4, 5, 5}, {true, 0b00000000, 2, 7, 7}, {false, 0b11110000, 4, 3, 7}, {true, 0b01000000, 2, 4, 7},
		{true, 0b10000000, 4, 8, 8}, {false, 0b00000000, 2, 7, 8}, {false, 0b01000000, 2, 5, 8}, {true, 0b10000000, 8, 9, 9},
		{false, 0b10000000, 4, 9, 9}, {false, 0b10000000, 8, 0, 9}, {true, 0, 0, 1, 9}, {true, 0b11111111, 8, 9, 9}, {true, 0b01000000, 2, 11, 11}, {false, 0, 0, 11, 11},
	}
	for i, c := range sizes {
		if c.put {
			sameErr(t, "Put", x.Put(c.word, c.n, i), api.OK)
		} else {
			sameErr(t, "Cut", x.Cut(c.word, c.n), api.OK)
		}
		sameSize(t, "step "+strconv.Itoa(i), x, c.nodes, c.arena)
	}
}

// P12.6

func TestLongestIsTheLastThatAboveTells(t *testing.T) {
	draw := drawer(3)
	for _, width := range widths {
		x := made(t, width, 100000)
		for range 300 {
			k := drawKey(draw, width)
			sameErr(t, "Put", x.Put(k.word, k.n, draw(9)), api.OK)
		}
		for range 2000 {
			word := drawKey(draw, width).word
			told := slices.Collect(x.Above(word, width))
			e, ok := x.Longest(word)
			if ok != (len(told) > 0) || ok && e != told[len(told)-1] {
				t.Errorf("Longest(%x) = %v, %v; Above tells %v", word, e, ok, told)
			}
		}
	}
}

// drawKey is a key that may be. Many of them share a beginning, since at most few bits are other than those of a few words.
func drawKey(draw func(int) int, width int) key {
	words := []uint32{0, last(width), 0x55555555 & last(width), 0xcccccccc & last(width)}
	word := words[draw(len(words))]
	if draw(2) == 0 {
		word ^= 1 << draw(width)
	}
	n := draw(width + 1)
	return key{word &^ uint32(1<<(width-n)-1), n}
}

func TestTheOrderOfPutsDoesNotMatter(t *testing.T) {
	draw := drawer(4)
	for _, width := range widths {
		for range 20 {
			m := newModel(width, 100000)
			for i := range 12 {
				k := drawKey(draw, width)
				m.put(k.word, k.n, i)
			}
			list := m.walk()
			slices.Reverse(list)
			for range 10 {
				x := made(t, width, m.nodes(), list...)
				alike(t, "in another order", x, m)
				for i := range list {
					j := draw(i + 1)
					list[i], list[j] = list[j], list[i]
				}
			}
		}
	}
}

func TestAKeyPutAndCutAgainLeavesAllAsItWas(t *testing.T) {
	draw := drawer(5)
	for _, width := range widths {
		m, x := newModel(width, 100000), made(t, width, 100000)
		for i := range 20 {
			k := drawKey(draw, width)
			sameErr(t, "Put", x.Put(k.word, k.n, i), m.put(k.word, k.n, i))
		}
		for range 200 {
			k := drawKey(draw, width)
			if _, ok := m.get(k.word, k.n); ok {
				continue
			}
			sameErr(t, "Put", x.Put(k.word, k.n, 99), m.put(k.word, k.n, 99))
			alike(t, "behind Put", x, m)
			sameErr(t, "Cut", x.Cut(k.word, k.n), m.cut(k.word, k.n))
			alike(t, "behind both", x, m)
			alikeAt(t, x, m, k.word, k.n)
		}
	}
}

// wander puts and cuts in turn, and holds the trie against its model each time.
func wander(t *testing.T, width, most, steps int, seed uint64) {
	draw := drawer(seed)
	m, x := newModel(width, most), made(t, width, most)
	for step := range steps {
		k := drawKey(draw, width)
		if draw(10) == 0 {
			wrong := wrongKeys(width)
			k = wrong[draw(len(wrong))]
		}
		if held := m.walk(); len(held) > 0 && draw(3) == 0 {
			e := held[draw(len(held))]
			k = key{e.Key, e.Len}
		}
		before := maps.Clone(m.held)
		if draw(5) < 3 {
			v := draw(7) - 3
			sameErr(t, "Put", x.Put(k.word, k.n, v), m.put(k.word, k.n, v))
		} else {
			sameErr(t, "Cut", x.Cut(k.word, k.n), m.cut(k.word, k.n))
		}
		alike(t, "step "+strconv.Itoa(step), x, m)
		alikeAt(t, x, m, k.word, k.n)
		alikeAt(t, x, m, drawKey(draw, width).word, width)
		if x.Nodes() > x.Arena() || x.Nodes() > most || len(m.held) > x.Nodes() {
			t.Errorf("step %d: %d keys, %d nodes, an arena of %d, %d at most", step, len(m.held), x.Nodes(), x.Arena(), most)
		}
		if t.Failed() {
			t.Fatalf("width %d, most %d, step %d: the key %x, %d; ahead %v", width, most, step, k.word, k.n, before)
		}
	}
}

func TestWander(t *testing.T) {
	for i, width := range widths {
		for j, most := range []int{0, 1, 2, width, width + 1, 2 * width, 3 * width, 1048576} {
			wander(t, width, most, 400, uint64(10*i+j))
		}
	}
}

// R2

func TestTriesKnowNothingOfOneAnother(t *testing.T) {
	x, y := made(t, 8, 20, entry(0b10000000, 1, 1)), made(t, 8, 20, entry(0b10000000, 1, 2))
	z := made(t, 32, 40, entry(1<<31, 1, 3))
	sameErr(t, "Put", x.Put(0b11000000, 2, 4), api.OK)
	sameErr(t, "Cut", y.Cut(0b10000000, 1), api.OK)
	sameErr(t, "Cut", y.Cut(0b11000000, 2), api.ErrTrieNone)
	gives(t, "one trie", x.Walk(), entry(0b10000000, 1, 1), entry(0b11000000, 2, 4))
	gives(t, "another one", y.Walk())
	gives(t, "a third one", z.Walk(), entry(1<<31, 1, 3))
	sameSize(t, "one trie", x, 3, 3)
	sameSize(t, "another one", y, 0, 2)
	sameSize(t, "a third one", z, 2, 2)
}

// R3

func TestNilTrie(t *testing.T) {
	var x *trie.Trie
	for _, k := range slices.Concat(rightKeys(32), wrongKeys(32), wrongKeys(8)) {
		sameErr(t, "Put", x.Put(k.word, k.n, 1), api.ErrNil)
		sameErr(t, "Cut", x.Cut(k.word, k.n), api.ErrNil)
		sameGet(t, x, k.word, k.n, 0, false)
		sameLongest(t, x, k.word, api.Entry{}, false)
		gives(t, "Above", x.Above(k.word, k.n))
	}
	gives(t, "Walk", x.Walk())
	sameSize(t, "nil", x, 0, 0)
}

// The chapter's table of examples, row by row.
func TestExamples(t *testing.T) {
	for _, c := range [][2]int{{7, 5}, {8, -1}, {32, 1048577}} {
		if x, err := trie.New(c[0], c[1]); x != nil || err != api.ErrArg {
			t.Errorf("New(%d, %d) = %v, %d", c[0], c[1], x, err)
		}
	}
	x := made(t, 8, 20)
	sameErr(t, "Put(10000000, 1, 5)", x.Put(0b10000000, 1, 5), api.OK)
	if x.Nodes() != 2 {
		t.Errorf("Nodes() = %d", x.Nodes())
	}
	sameErr(t, "Put(10100000, 3, 6)", x.Put(0b10100000, 3, 6), api.OK)
	sameSize(t, "behind both", x, 4, 4)
	sameErr(t, "Put(10100000, 2, 0)", x.Put(0b10100000, 2, 0), api.ErrTrieKey)
	sameErr(t, "Put(0, 9, 0)", x.Put(0, 9, 0), api.ErrTrieKey)
	sameErr(t, "Put(256, 8, 0)", x.Put(256, 8, 0), api.ErrTrieKey)

	sameLongest(t, x, 0b10111111, entry(0b10100000, 3, 6), true)
	sameLongest(t, x, 0b11000000, entry(0b10000000, 1, 5), true)
	sameLongest(t, x, 0, api.Entry{}, false)
	sameLongest(t, x, 256, api.Entry{}, false)
	gives(t, "Above(10100000, 8)", x.Above(0b10100000, 8), entry(0b10000000, 1, 5), entry(0b10100000, 3, 6))

	sameErr(t, "Cut(10100000, 3)", x.Cut(0b10100000, 3), api.OK)
	sameSize(t, "behind Cut", x, 2, 4)
	sameErr(t, "Cut(10100000, 3)", x.Cut(0b10100000, 3), api.ErrTrieNone)

	x = made(t, 8, 2)
	sameErr(t, "Put(10000000, 2, 0)", x.Put(0b10000000, 2, 0), api.ErrTrieFull)
	sameErr(t, "Put(0, 1, 0)", x.Put(0, 1, 0), api.OK)
}
