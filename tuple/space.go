package tuple

import (
	"math"

	"quintet/api"
	"quintet/expand"
	"quintet/hash"
	"quintet/prefix"
)

// tuple says which bits of a header are cared for.
type tuple struct {
	src, dst     int   // how long the prefixes are
	sport, dport int   // how long the stems are
	care         uint8 // the mask's
}

// cuts is how each field of a header is cut: to noughts where its bits are not cared for.
type cuts struct {
	src, dst     func(uint32) uint32
	sport, dport func(uint16) uint16
	proto        func(uint8) uint8
}

func (t tuple) cuts() cuts {
	return cuts{src: t.cutSrc, dst: t.cutDst, sport: t.cutSport, dport: t.cutDport, proto: t.cutProto}
}

func (t tuple) cutSrc(addr uint32) uint32 { return cutAddr(addr, t.src) }

func (t tuple) cutDst(addr uint32) uint32 { return cutAddr(addr, t.dst) }

func (t tuple) cutSport(port uint16) uint16 { return cutPort(port, t.sport) }

func (t tuple) cutDport(port uint16) uint16 { return cutPort(port, t.dport) }

func (t tuple) cutProto(proto uint8) uint8 { return proto & t.care }

// header is the one that has these cuts.
func (c cuts) header(h api.Header) api.Header {
	return api.Header{Src: c.src(h.Src), Dst: c.dst(h.Dst), Sport: c.sport(h.Sport), Dport: c.dport(h.Dport), Proto: c.proto(h.Proto)}
}

// cutAddr keeps the first n bits, as many as a prefix that may be has: so there is no error.
func cutAddr(addr uint32, n int) uint32 {
	p, _ := prefix.Of(addr, n)
	return p.Addr
}

// cutPort keeps the first n bits.
func cutPort(port uint16, n int) uint16 { return port &^ (math.MaxUint16 >> n) }

// spot is where a rule stands: in the table of a tuple, under a header that has noughts for the bits that are not cared for.
type spot struct {
	tuple tuple
	head  api.Header
}

// spots are those of a rule that may be: one for each stem of its Sport with each of its Dport. No two of them are alike, so that no header finds the rule twice.
func spots(r api.Rule) []spot {
	from, _ := expand.Of(r.Sport)
	to, _ := expand.Of(r.Dport)
	list := make([]spot, 0, len(from)*len(to))
	for _, s := range from {
		for _, d := range to {
			list = append(list, spot{
				tuple{src: r.Src.Len, dst: r.Dst.Len, sport: s.Len, dport: d.Len, care: r.Proto.Care},
				api.Header{Src: r.Src.Addr, Dst: r.Dst.Addr, Sport: s.Bits, Dport: d.Bits, Proto: r.Proto.Value},
			})
		}
	}
	return list
}

// group is the table of a tuple: under headers the rules that stand there, as Ids, since places would change with every rule that comes or goes.
type group struct {
	cuts    cuts
	ids     *hash.Table[[]int] // each list by rising places
	entries int
}

// newGroup has room for all headers that there may be: those of 64 rules with 30 stems of either port.
func newGroup(t tuple) *group {
	ids, _ := hash.New[[]int](api.MaxHash)
	return &group{cuts: t.cuts(), ids: ids}
}

// put lets a rule stand under a header, behind those that stand there.
func (g *group) put(head api.Header, id int) {
	ids, _ := g.ids.Get(head)
	g.ids.Put(head, append(ids, id))
	g.entries++
}

// find is the rules of the table that match a header, and how many slots were looked at.
func (g *group) find(h api.Header) (ids []int, probes int) {
	head := g.cuts.header(h)
	ids, _ = g.ids.Get(head)
	return ids, g.ids.Probes(head)
}

// space is the tables under their tuples, and the order in which they are asked.
type space struct {
	groups map[tuple]*group
	turns  []turn
}

// turn is a table's, with the least place of its rules.
type turn struct {
	first int
	group *group
}

func newSpace() space { return space{groups: map[tuple]*group{}} }

// settle follows a change to the rules: some came, or went.
func (s *space) settle(l []api.Rule, changed ...api.Rule) {
	s.renew(l, changed)
	s.rank(l)
}

// renew lays the tables anew in which the rules that came or went stand or stood. They are laid from all rules by rising places, so that what a table has, and in which slots, hangs on the rules alone, not on the way to them.
func (s *space) renew(l, changed []api.Rule) {
	fresh := map[tuple]*group{}
	for _, r := range changed {
		for _, at := range spots(r) {
			if fresh[at.tuple] == nil {
				fresh[at.tuple] = newGroup(at.tuple)
			}
		}
	}
	for _, r := range l {
		for _, at := range spots(r) {
			if g := fresh[at.tuple]; g != nil {
				g.put(at.head, r.Id)
			}
		}
	}
	for t, g := range fresh {
		if g.entries > 0 {
			s.groups[t] = g
		} else {
			delete(s.groups, t)
		}
	}
}

// rank lets the tables be asked by the least place of their rules; of the same place, in the order of the rule's spots.
func (s *space) rank(l []api.Rule) {
	s.turns = nil
	ranked := map[tuple]struct{}{}
	for place, r := range l {
		for _, at := range spots(r) {
			if _, is := ranked[at.tuple]; !is {
				ranked[at.tuple] = struct{}{}
				s.turns = append(s.turns, turn{place, s.groups[at.tuple]})
			}
		}
	}
}
