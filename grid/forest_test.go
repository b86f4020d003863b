package grid

import (
	"slices"
	"testing"

	"quintet/api"
	"quintet/prefix"
	"quintet/rule"
)

// drawn are n rules whose prefixes lie within one another often, and headers from where these begin and end.
func drawn(seed uint64, n int) ([]api.Rule, []api.Header) {
	draw := func(n int) int {
		seed = seed*6364136223846793005 + 1442695040888963407
		return int(seed >> 33 % uint64(n))
	}
	part := func() api.Prefix {
		at := []uint32{0x0a010203, 0x0a010202, 0x0ac80001, 0xffffffff, 1 << 31}[draw(5)]
		p, _ := prefix.Of(at, []int{0, 32, draw(33), draw(9)}[draw(4)])
		return p
	}
	var l []api.Rule
	var heads []api.Header
	for i := range n {
		r := rule.All(i+1, api.Permit)
		r.Src, r.Dst = part(), part()
		l = append(l, r)
	}
	for range 20 * n {
		a, _ := prefix.Run(l[draw(n)].Src)
		b, _ := prefix.Run(l[draw(n)].Dst)
		heads = append(heads, api.Header{Src: []uint32{a.Lo, a.Hi, a.Hi + 1}[draw(3)], Dst: []uint32{b.Lo, b.Hi, b.Hi + 1}[draw(3)]})
	}
	return l, heads
}

// The lists that a header's way meets have just the rules that have both of its addresses, each of them once.
func TestEachRuleIsMetOnce(t *testing.T) {
	for seed := range uint64(60) {
		l, heads := drawn(seed, 1+int(seed))
		f := plant(l)
		for _, h := range heads {
			var want []int
			for place, r := range l {
				if prefix.Has(r.Src, h.Src) && prefix.Has(r.Dst, h.Dst) {
					want = append(want, place)
				}
			}
			lists, gone := f.find(h)
			got := slices.Concat(lists...)
			slices.Sort(got)
			if !slices.Equal(got, want) || gone > 66 {
				t.Fatalf("find(%+v): %v, %d nodes, wanted %v of %v", h, lists, gone, want, l)
			}
		}
	}
}

// A list that grew would move away, and leave the next one as it is.
func TestNoListGrowsIntoTheNextOne(t *testing.T) {
	for seed := range uint64(30) {
		l, _ := drawn(seed, 1+int(seed))
		f := plant(l)
		before, sum := slices.Clone(f.long), 0
		for _, n := range f.nodes {
			if !slices.IsSorted(n.list) || len(slices.Compact(slices.Clone(n.list))) != len(n.list) {
				t.Fatalf("a list that does not rise: %v", n.list)
			}
			sum += len(n.list)
			_ = append(n.list, -1)
		}
		if !slices.Equal(f.long, before) || sum != len(f.long) {
			t.Fatalf("the long list is %v, was %v; the lists have %d places", f.long, before, sum)
		}
	}
}
