package cuts

import (
	"cmp"
	"math/bits"
	"slices"

	"quintet/api"
	"quintet/mask"
	"quintet/span"
)

// part is a box, and the rules that may match there: by rising places, up to the first one that has all of it, since those behind it decide nothing there.
type part struct {
	box   api.Box
	rules []entry
}

// entry is a rule's place, and what its box has in common with the part's. That is kept, since a cut changes one field of it alone: the other four need not be asked again.
type entry struct {
	place  int
	common api.Box
}

// settled tells whether the last one of the rules has all of the part.
func (p *part) settled() bool {
	last := len(p.rules) - 1
	return last >= 0 && p.rules[last].common == p.box
}

func (p *part) places() []int {
	list := make([]int, len(p.rules))
	for i, e := range p.rules {
		list[i] = e.place
	}
	return list
}

// cut is the two halves of a part.
type cut struct{ low, high part }

// more is how many rules the half has that has more of them.
func (c cut) more() int { return max(len(c.low.rules), len(c.high.rules)) }

// both is how many rules both halves have together.
func (c cut) both() int { return len(c.low.rules) + len(c.high.rules) }

// trial cuts a part by one field; false, if there is but one number of it.
type trial func(p part) (cut, bool)

// trials are one for each field, in the order of headers.
func trials() []trial {
	return []trial{
		byField(func(b *api.Box) *api.Run { return &b.Src }, halveRun, meetRun),
		byField(func(b *api.Box) *api.Run { return &b.Dst }, halveRun, meetRun),
		byField(func(b *api.Box) *api.Span { return &b.Sport }, halveSpan, span.Meet),
		byField(func(b *api.Box) *api.Span { return &b.Dport }, halveSpan, span.Meet),
		byField(func(b *api.Box) *api.Mask { return &b.Proto }, halveMask, mask.Meet),
	}
}

// byField is the trial of one field, wherever it stands in a box and whatever kind it is.
func byField[kind any](field func(*api.Box) *kind, halve func(kind) (kind, kind, bool), meet func(a, b kind) (kind, bool)) trial {
	narrow := func(p part, to kind) part {
		half := part{box: p.box, rules: make([]entry, 0, len(p.rules))}
		*field(&half.box) = to
		for i, e := range p.rules {
			both, ok := meet(*field(&p.rules[i].common), to)
			if !ok {
				continue
			}
			half.rules = append(half.rules, e)
			*field(&half.rules[len(half.rules)-1].common) = both
			if half.settled() {
				break
			}
		}
		return half
	}
	return func(p part) (cut, bool) {
		low, high, ok := halve(*field(&p.box))
		if !ok {
			return cut{}, false
		}
		return cut{narrow(p, low), narrow(p, high)}, true
	}
}

// best is the cut that leaves fewest rules in the half that has more; of several the one that leaves fewest in both together, then the first. There is one, since no ten cuts come to a single address.
func best(p part, by []trial) cut {
	var cuts []cut
	for _, try := range by {
		if c, ok := try(p); ok {
			cuts = append(cuts, c)
		}
	}
	return slices.MinFunc(cuts, func(a, b cut) int {
		return cmp.Or(cmp.Compare(a.more(), b.more()), cmp.Compare(a.both(), b.both()))
	})
}

func halveRun(r api.Run) (low, high api.Run, ok bool) {
	mid, ok := midst(r.Lo, r.Hi)
	return api.Run{Lo: r.Lo, Hi: mid}, api.Run{Lo: mid + 1, Hi: r.Hi}, ok
}

func halveSpan(s api.Span) (low, high api.Span, ok bool) {
	mid, ok := midst(s.Lo, s.Hi)
	return api.Span{Lo: s.Lo, Hi: mid}, api.Span{Lo: mid + 1, Hi: s.Hi}, ok
}

// midst is the last number of the lower half; false, if there is but one number. It adds half of the way, since the sum of both ends may be too great.
func midst[number uint16 | uint32](lo, hi number) (number, bool) { return lo + (hi-lo)/2, lo < hi }

// halveMask cuts by the highest bit that is not cared for.
func halveMask(m api.Mask) (low, high api.Mask, ok bool) {
	free := ^m.Care
	if free == 0 {
		return api.Mask{}, api.Mask{}, false
	}
	bit := uint8(1) << (bits.Len8(free) - 1)
	care := m.Care | bit
	return api.Mask{Value: m.Value, Care: care}, api.Mask{Value: m.Value | bit, Care: care}, true
}

// meetRun is what two runs share.
func meetRun(a, b api.Run) (api.Run, bool) {
	both := api.Run{Lo: max(a.Lo, b.Lo), Hi: min(a.Hi, b.Hi)}
	if both.Lo > both.Hi {
		return api.Run{}, false
	}
	return both, true
}
