package box

import (
	"quintet/api"
	"quintet/mask"
	"quintet/span"
)

// field is what is asked of one of a box's five, whatever kind it is. What it answers of a box or a header has the other four as they were.
type field struct {
	check func(b api.Box) api.Errno
	count func(b api.Box) uint64
	bring func(h api.Header, b api.Box) api.Header // as bring, for this field
	meet  func(a, b api.Box) (api.Box, bool)       // a with this field cut to what it shares with b's
	less  func(a, b api.Box) []api.Box             // a with this field cut to each piece of it that b's has not
}

// fields are a box's five, in the order in which headers are held against one another.
func fields() [5]field { return [5]field{src(), dst(), sport(), dport(), proto()} }

func src() field {
	return field{
		check: func(b api.Box) api.Errno { return checkRun(b.Src) },
		count: func(b api.Box) uint64 { return countRun(b.Src) },
		bring: func(h api.Header, b api.Box) api.Header {
			h.Src = min(max(h.Src, b.Src.Lo), b.Src.Hi)
			return h
		},
		meet: func(a, b api.Box) (api.Box, bool) {
			both, ok := meetRun(a.Src, b.Src)
			a.Src = both
			return a, ok
		},
		less: func(a, b api.Box) []api.Box {
			return each(lessRun(a.Src, b.Src), func(r api.Run) api.Box {
				a.Src = r
				return a
			})
		},
	}
}

func dst() field {
	return field{
		check: func(b api.Box) api.Errno { return checkRun(b.Dst) },
		count: func(b api.Box) uint64 { return countRun(b.Dst) },
		bring: func(h api.Header, b api.Box) api.Header {
			h.Dst = min(max(h.Dst, b.Dst.Lo), b.Dst.Hi)
			return h
		},
		meet: func(a, b api.Box) (api.Box, bool) {
			both, ok := meetRun(a.Dst, b.Dst)
			a.Dst = both
			return a, ok
		},
		less: func(a, b api.Box) []api.Box {
			return each(lessRun(a.Dst, b.Dst), func(r api.Run) api.Box {
				a.Dst = r
				return a
			})
		},
	}
}

func sport() field {
	return field{
		check: func(b api.Box) api.Errno { return span.Check(b.Sport) },
		count: func(b api.Box) uint64 { return uint64(span.Count(b.Sport)) },
		bring: func(h api.Header, b api.Box) api.Header {
			h.Sport = min(max(h.Sport, b.Sport.Lo), b.Sport.Hi)
			return h
		},
		meet: func(a, b api.Box) (api.Box, bool) {
			both, ok := span.Meet(a.Sport, b.Sport)
			a.Sport = both
			return a, ok
		},
		less: func(a, b api.Box) []api.Box {
			return each(span.Less(a.Sport, b.Sport), func(s api.Span) api.Box {
				a.Sport = s
				return a
			})
		},
	}
}

func dport() field {
	return field{
		check: func(b api.Box) api.Errno { return span.Check(b.Dport) },
		count: func(b api.Box) uint64 { return uint64(span.Count(b.Dport)) },
		bring: func(h api.Header, b api.Box) api.Header {
			h.Dport = min(max(h.Dport, b.Dport.Lo), b.Dport.Hi)
			return h
		},
		meet: func(a, b api.Box) (api.Box, bool) {
			both, ok := span.Meet(a.Dport, b.Dport)
			a.Dport = both
			return a, ok
		},
		less: func(a, b api.Box) []api.Box {
			return each(span.Less(a.Dport, b.Dport), func(s api.Span) api.Box {
				a.Dport = s
				return a
			})
		},
	}
}

func proto() field {
	return field{
		check: func(b api.Box) api.Errno { return mask.Check(b.Proto) },
		count: func(b api.Box) uint64 { return uint64(mask.Count(b.Proto)) },
		bring: func(h api.Header, b api.Box) api.Header {
			h.Proto = h.Proto&^b.Proto.Care | b.Proto.Value
			return h
		},
		meet: func(a, b api.Box) (api.Box, bool) {
			both, ok := mask.Meet(a.Proto, b.Proto)
			a.Proto = both
			return a, ok
		},
		less: func(a, b api.Box) []api.Box {
			return each(mask.Less(a.Proto, b.Proto), func(m api.Mask) api.Box {
				a.Proto = m
				return a
			})
		},
	}
}

// each is the boxes that with makes, one of each piece.
func each[piece any](pieces []piece, with func(piece) api.Box) []api.Box {
	var list []api.Box
	for _, p := range pieces {
		list = append(list, with(p))
	}
	return list
}

func checkRun(r api.Run) api.Errno {
	if r.Lo > r.Hi {
		return api.ErrBoxRun
	}
	return api.OK
}

// countRun counts in 64 bits, since a run of all addresses has more of them than 32 bits can tell.
func countRun(r api.Run) uint64 {
	if checkRun(r) != api.OK {
		return 0
	}
	return uint64(r.Hi) - uint64(r.Lo) + 1
}

// meetRun is what two runs share. If one of the two may not be, the inner ends make no run either.
func meetRun(a, b api.Run) (api.Run, bool) {
	both := api.Run{Lo: max(a.Lo, b.Lo), Hi: min(a.Hi, b.Hi)}
	if checkRun(both) != api.OK {
		return api.Run{}, false
	}
	return both, true
}

// lessRun is the pieces of a run below and above another one that shares some of it.
func lessRun(a, b api.Run) []api.Run {
	var pieces []api.Run
	if a.Lo < b.Lo {
		pieces = append(pieces, api.Run{Lo: a.Lo, Hi: b.Lo - 1})
	}
	if b.Hi < a.Hi {
		pieces = append(pieces, api.Run{Lo: b.Hi + 1, Hi: a.Hi})
	}
	return pieces
}
