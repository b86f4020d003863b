package curve_test

import (
	"iter"
	"math"
	"slices"
	"testing"

	"quintet/api"
	"quintet/curve"
)

// small is the greatest order whose walk is gone through whole.
const small = 8

var (
	nought = math.Copysign(0, -1) // the one below 0
	inf    = math.Inf(1)
	nan    = math.NaN()
)

// point has whole numbers: the answers are held against these, another way than the package's own.
type point struct{ x, y int }

func (p point) z() complex128 { return complex(float64(p.x), float64(p.y)) }

// walks are the walks of the orders 0 to small, by the chapter's four parts.
func walks() [][]point {
	all := [][]point{{{0, 0}}}
	for n := 1; n <= small; n++ {
		h, before := 1<<(n-1), all[n-1]
		var next []point
		for _, p := range before {
			next = append(next, point{p.y, p.x})
		}
		for _, p := range before {
			next = append(next, point{p.x, p.y + h})
		}
		for _, p := range before {
			next = append(next, point{p.x + h, p.y + h})
		}
		for _, p := range before {
			next = append(next, point{2*h - 1 - p.y, h - 1 - p.x})
		}
		all = append(all, next)
	}
	return all
}

// pointAt goes down to a place from the whole square: it keeps where the part's own 0 lies, and which ways its x and its y lead. So it tells places of every order without going through the walk.
func pointAt(order, place int) point {
	at, right, up := point{0, 0}, point{1, 0}, point{0, 1}
	ahead := func(p, way point, steps int) point { return point{p.x + steps*way.x, p.y + steps*way.y} }
	for n := order - 1; n >= 0; n-- {
		h := 1 << n
		switch place >> (2 * n) & 3 {
		case 0:
			right, up = up, right
		case 1:
			at = ahead(at, up, h)
		case 2:
			at = ahead(ahead(at, up, h), right, h)
		case 3:
			at = ahead(ahead(at, right, 2*h-1), up, h-1)
			right, up = point{-up.x, -up.y}, point{-right.x, -right.y}
		}
	}
	return at
}

// drawer gives numbers below n, always the same ones.
func drawer(state uint64) func(n int) int {
	return func(n int) int {
		state = state*6364136223846793005 + 1442695040888963407
		return int(state >> 31 % uint64(n))
	}
}

// places: all of the small orders; of the others those at the edges of the parts, and some that are drawn.
func places(order int) []int {
	end := 1 << (2 * order)
	var list []int
	if order <= small {
		for place := range end {
			list = append(list, place)
		}
		return list
	}
	for n := range order {
		for part := range 4 {
			edge := part << (2 * n)
			list = append(list, edge, edge+1, max(edge-1, 0), end-1-edge)
		}
	}
	draw := drawer(uint64(order))
	for range 2000 {
		list = append(list, draw(end))
	}
	return list
}

// wrongOrders are none of 1 to 16.
func wrongOrders() []int {
	return []int{0, 17, -1, 18, -16, 32, 64, 256, 1 << 40, math.MinInt, math.MaxInt}
}

// rule has these two addresses, and nothing else.
func rule(src, dst uint32) api.Rule {
	return api.Rule{Src: api.Prefix{Addr: src, Len: 32}, Dst: api.Prefix{Addr: dst, Len: 32}}
}

// sameParts holds two numbers together with the signs of noughts; what is no number is alike, whatever its bits.
func sameParts(a, b complex128) bool {
	same := func(a, b float64) bool {
		return math.IsNaN(a) && math.IsNaN(b) || math.Float64bits(a) == math.Float64bits(b)
	}
	return same(real(a), real(b)) && same(imag(a), imag(b))
}

func sameTurn(t *testing.T, z complex128, quarters int, want complex128) {
	t.Helper()
	if got := curve.Turn(z, quarters); !sameParts(got, want) {
		t.Errorf("Turn(%v, %d) = %v, wanted %v", z, quarters, got, want)
	}
}

func sameAt(t *testing.T, order, place int, z complex128, err api.Errno) {
	t.Helper()
	if got, e := curve.At(order, place); !sameParts(got, z) || e != err {
		t.Errorf("At(%d, %d) = %v, %d, wanted %v, %d", order, place, got, e, z, err)
	}
}

func samePlace(t *testing.T, order int, z complex128, place int, err api.Errno) {
	t.Helper()
	if got, e := curve.Place(order, z); got != place || e != err {
		t.Errorf("Place(%d, %v) = %d, %d, wanted %d, %d", order, z, got, e, place, err)
	}
}

// gives asks an iterator twice, since it is to begin anew each time.
func gives(t *testing.T, order int, s iter.Seq[complex128], want []point) {
	t.Helper()
	if s == nil {
		t.Fatalf("Walk(%d): nil", order)
	}
	for range 2 {
		n := 0
		for z := range s {
			if n >= len(want) || !sameParts(z, want[n].z()) {
				t.Fatalf("Walk(%d): %v at the place %d of %d", order, z, n, len(want))
			}
			n++
		}
		if n != len(want) {
			t.Fatalf("Walk(%d): %d points, wanted %d", order, n, len(want))
		}
	}
}

func sameSort(t *testing.T, what string, l []api.Rule, want ...int) {
	t.Helper()
	if got := curve.Sort(l); !slices.Equal(got, want) {
		t.Errorf("%s: %v, wanted %v", what, got, want)
	}
}

// The two models agree, so that each may stand for the chapter's words.
func TestModels(t *testing.T) {
	for order, walk := range walks() {
		for place, p := range walk {
			if got := pointAt(order, place); got != p {
				t.Fatalf("order %d, place %d: %v and %v", order, place, got, p)
			}
		}
	}
}

// P13.1

func TestTurnByQuarters(t *testing.T) {
	want := [4]complex128{5 - 7i, 7 + 5i, -5 + 7i, -7 - 5i}
	quarters := map[int]int{
		0: 0, 1: 1, 2: 2, 3: 3, 4: 0, 5: 1, 6: 2, 7: 3, 8: 0, 1001: 1,
		-1: 3, -2: 2, -3: 1, -4: 0, -5: 3, -6: 2, -7: 1, -8: 0, -1001: 3,
		math.MinInt: 0, math.MinInt + 1: 1, math.MaxInt: 3, math.MaxInt - 1: 2,
		math.MinInt32: 0, math.MaxInt32: 3,
	}
	for q, n := range quarters {
		sameTurn(t, 5-7i, q, want[n])
	}
}

// Of each part each kind: a turn by one quarter exchanges the parts and turns one sign, and turns by more are made of these.
func TestTurnOfAllKindsOfParts(t *testing.T) {
	parts := []float64{0, nought, 1, -1, 0.5, -3, 65535, inf, -inf, nan, math.MaxFloat64, -math.SmallestNonzeroFloat64}
	turned := func(x float64) float64 {
		if math.Signbit(x) {
			return math.Copysign(x, 1)
		}
		return math.Copysign(x, -1)
	}
	for _, x := range parts {
		for _, y := range parts {
			want := complex(x, y)
			for n := range 4 {
				for _, q := range []int{n, n + 4, n - 4, n - 8, n + 400, math.MinInt + n, math.MaxInt - 3 + n} {
					sameTurn(t, complex(x, y), q, want)
				}
				want = complex(turned(imag(want)), real(want))
			}
			if !sameParts(want, complex(x, y)) {
				t.Fatalf("four quarters of %v: %v", complex(x, y), want)
			}
		}
	}
}

func TestTurnOfNoughtsAndOfWhatIsInfinite(t *testing.T) {
	sameTurn(t, 0, 0, 0)
	sameTurn(t, 0, 1, complex(nought, 0))
	sameTurn(t, 0, 2, complex(nought, nought))
	sameTurn(t, 0, 3, complex(0, nought))
	sameTurn(t, complex(nought, nought), 1, complex(0, nought))
	sameTurn(t, complex(nought, 0), -1, 0)
	sameTurn(t, 3, 1, complex(nought, 3))
	sameTurn(t, complex(inf, 0), 1, complex(nought, inf))
	sameTurn(t, complex(inf, -inf), 2, complex(-inf, inf))
	sameTurn(t, complex(2, nan), 1, complex(nan, 2))
	sameTurn(t, complex(2, nan), 3, complex(nan, -2))
	sameTurn(t, complex(nan, -inf), 1, complex(inf, nan))
}

// P13.2

func TestAtOfEveryPlaceOfSmallOrders(t *testing.T) {
	for order, walk := range walks() {
		for place, p := range walk {
			if order > 0 {
				sameAt(t, order, place, p.z(), api.OK)
			}
		}
	}
}

func TestAtOfGreatOrders(t *testing.T) {
	for order := small + 1; order <= 16; order++ {
		for _, place := range places(order) {
			sameAt(t, order, place, pointAt(order, place).z(), api.OK)
		}
	}
}

func TestAtOfOrdersThatAreNone(t *testing.T) {
	for _, order := range wrongOrders() {
		for _, place := range []int{0, 1, 3, 4, -1, 1 << 31, 1 << 32, 1 << 34, math.MinInt, math.MaxInt} {
			sameAt(t, order, place, 0, api.ErrCurveOrder)
		}
	}
}

func TestAtOfPlacesAtTheEdges(t *testing.T) {
	for order := 1; order <= 16; order++ {
		end := 1 << (2 * order)
		sameAt(t, order, 0, 0, api.OK)
		sameAt(t, order, end-1, point{1<<order - 1, 0}.z(), api.OK)
		for _, place := range []int{end, end + 1, 2 * end, -1, -2, -end, 1 << 40, math.MinInt, math.MaxInt} {
			sameAt(t, order, place, 0, api.ErrCurvePoint)
		}
	}
}

func TestPlaceOfEveryPointOfSmallOrders(t *testing.T) {
	for order, walk := range walks() {
		for place, p := range walk {
			if order > 0 {
				samePlace(t, order, p.z(), place, api.OK)
			}
		}
	}
}

func TestPlaceOfGreatOrders(t *testing.T) {
	for order := small + 1; order <= 16; order++ {
		for _, place := range places(order) {
			samePlace(t, order, pointAt(order, place).z(), place, api.OK)
		}
	}
}

// The upper corners lie in the same part of each part: their digits to the base 4 are all 1, and all 2.
func TestPlaceAtTheCorners(t *testing.T) {
	samePlace(t, 16, 0, 0, api.OK)
	samePlace(t, 16, 65535i, 1431655765, api.OK)
	samePlace(t, 16, 65535+65535i, 2863311530, api.OK)
	samePlace(t, 16, 65535, 4294967295, api.OK)
	for order := 1; order <= 16; order++ {
		most, last := float64(int(1)<<order-1), 1<<(2*order)-1
		samePlace(t, order, 0, 0, api.OK)
		samePlace(t, order, complex(0, most), last/3, api.OK)
		samePlace(t, order, complex(most, most), last/3*2, api.OK)
		samePlace(t, order, complex(most, 0), last, api.OK)
	}
}

func TestPlaceWithPartsThatAreNone(t *testing.T) {
	for order := 1; order <= 16; order++ {
		end := float64(int(1) << order)
		wrong := []float64{
			0.5, end - 0.5, end, end + 1, 2 * end, -1, -0.5, -end, 1 << 32, 1 << 63, 1 << 64,
			math.SmallestNonzeroFloat64, -math.SmallestNonzeroFloat64, math.Nextafter(1, 0), math.Nextafter(1, 2), math.Nextafter(end, 0),
			math.MaxFloat64, -math.MaxFloat64, inf, -inf, nan,
		}
		for _, x := range wrong {
			for _, right := range []float64{0, nought, 1, end - 1} {
				samePlace(t, order, complex(x, right), 0, api.ErrCurvePoint)
				samePlace(t, order, complex(right, x), 0, api.ErrCurvePoint)
			}
			for _, y := range wrong {
				samePlace(t, order, complex(x, y), 0, api.ErrCurvePoint)
			}
		}
	}
}

func TestPlaceOfNoughtsBelowNought(t *testing.T) {
	for order := 1; order <= 16; order++ {
		samePlace(t, order, complex(nought, nought), 0, api.OK)
		samePlace(t, order, complex(nought, 0), 0, api.OK)
		samePlace(t, order, complex(0, nought), 0, api.OK)
		for _, x := range []float64{1, float64(int(1)<<order - 1), float64(int(1) << (order - 1))} {
			for _, c := range [][2]complex128{{complex(x, nought), complex(x, 0)}, {complex(nought, x), complex(0, x)}} {
				want, err := curve.Place(order, c[1])
				if err != api.OK {
					t.Errorf("Place(%d, %v): %d", order, c[1], err)
				}
				samePlace(t, order, c[0], want, api.OK)
			}
		}
	}
}

func TestPlaceOfOrdersThatAreNone(t *testing.T) {
	for _, order := range wrongOrders() {
		for _, z := range []complex128{0, 1, 1i, 0.5, -1, 65536, complex(nan, 0), complex(0, inf), complex(nought, nought)} {
			samePlace(t, order, z, 0, api.ErrCurveOrder)
		}
	}
}

// P13.3

func TestWalkIsTheChaptersFourParts(t *testing.T) {
	for order, want := range walks() {
		if order > 0 {
			gives(t, order, curve.Walk(order), want)
		}
	}
}

func TestWalkOfOrdersThatAreNone(t *testing.T) {
	for _, order := range wrongOrders() {
		gives(t, order, curve.Walk(order), nil)
	}
}

func TestWalkLeftEarly(t *testing.T) {
	all := walks()
	for order := 1; order <= 3; order++ {
		s := curve.Walk(order)
		for stop := range all[order] {
			n := 0
			for z := range s {
				if z != all[order][n].z() {
					t.Fatalf("Walk(%d) up to %d: %v at the place %d", order, stop, z, n)
				}
				if n == stop {
					break
				}
				n++
			}
		}
		gives(t, order, s, all[order])
	}
}

func TestWalkCallsNoMoreOnceItIsLeft(t *testing.T) {
	for order := 1; order <= 3; order++ {
		for stop := range 1 << (2 * order) {
			calls := 0
			curve.Walk(order)(func(complex128) bool {
				calls++
				return calls <= stop
			})
			if calls != stop+1 {
				t.Errorf("Walk(%d), left at the place %d: %d calls", order, stop, calls)
			}
		}
	}
}

func TestWalkWithinItself(t *testing.T) {
	s := curve.Walk(2)
	n, want := 0, walks()[2]
	for z := range s {
		if z != want[n].z() {
			t.Errorf("the place %d: %v", n, z)
		}
		gives(t, 2, s, want)
		for range s {
			break
		}
		n++
	}
	if n != len(want) {
		t.Errorf("%d points, wanted %d", n, len(want))
	}
}

// The greatest walks are too long to be gone through: their first points are told, and the rest is left.
func TestWalkOfGreatOrders(t *testing.T) {
	for order := small + 1; order <= 16; order++ {
		place := 0
		for z := range curve.Walk(order) {
			if !sameParts(z, pointAt(order, place).z()) {
				t.Fatalf("Walk(%d): %v at the place %d", order, z, place)
			}
			if place++; place == 5000 {
				break
			}
		}
		if place != 5000 {
			t.Errorf("Walk(%d): %d points", order, place)
		}
	}
}

// P13.4

func TestPointIsTheUpperBits(t *testing.T) {
	for _, c := range []struct {
		src, dst uint32
		want     complex128
	}{
		{0, 0, 0},
		{1 << 16, 0, 1},
		{0, 1 << 16, 1i},
		{1 << 31, 0, 32768},
		{0, 1 << 31, 32768i},
		{1 << 31, 1 << 31, 32768 + 32768i},
		{0xffff0000, 0, 65535},
		{0, 0xffff0000, 65535i},
		{0xffffffff, 0xffffffff, 65535 + 65535i},
		{0x0000ffff, 0xffff, 0},
		{0x0001ffff, 0x00020001, 1 + 2i},
		{0x7fffffff, 0x80000001, 32767 + 32768i},
		{10 << 24, 192<<24 | 168<<16 | 5<<8, 2560 + 49320i},
	} {
		if got := curve.Point(rule(c.src, c.dst)); !sameParts(got, c.want) {
			t.Errorf("Point(%x, %x) = %v, wanted %v", c.src, c.dst, got, c.want)
		}
	}
}

func TestPointAsksForTheAddressesAlone(t *testing.T) {
	r := rule(0x00050000, 0x00060000)
	want := curve.Point(r)
	for _, length := range []int{0, 3, 15, 33, -1, math.MinInt, math.MaxInt} {
		r.Src.Len, r.Dst.Len = length, -length
		r.Id, r.Action = length, api.Action(length)
		r.Sport, r.Dport = api.Span{Lo: 9, Hi: 1}, api.Span{Hi: 65535}
		r.Proto = api.Mask{Value: 255}
		if got := curve.Point(r); got != want || want != 5+6i {
			t.Errorf("the length %d: %v, wanted 5+6i", length, got)
		}
	}
}

func TestSortOfNone(t *testing.T) {
	if got := curve.Sort(nil); len(got) != 0 {
		t.Errorf("Sort of nil: %v", got)
	}
	if got := curve.Sort([]api.Rule{}); len(got) != 0 {
		t.Errorf("Sort of an empty list: %v", got)
	}
	sameSort(t, "one rule", []api.Rule{rule(7<<16, 9<<16)}, 0)
}

// sortModel puts each rule behind those ahead of it that are not beyond it on the walk, by the model's places.
func sortModel(at []int) []int {
	var sorted []int
	for i := range at {
		n := len(sorted)
		for n > 0 && at[sorted[n-1]] > at[i] {
			n--
		}
		sorted = slices.Insert(sorted, n, i)
	}
	return sorted
}

// atPlaces are rules whose points lie at these places of the walk of the order 16; what is below the upper bits is drawn.
func atPlaces(draw func(int) int, at []int) []api.Rule {
	var l []api.Rule
	for i, place := range at {
		p := pointAt(16, place)
		r := rule(uint32(p.x)<<16|uint32(draw(65536)), uint32(p.y)<<16|uint32(draw(65536)))
		r.Id = len(at) - i
		l = append(l, r)
	}
	return l
}

func TestSortOfEveryOrderOfFive(t *testing.T) {
	walk := []int{0, 5, 1 << 30, 1<<31 + 9, 1<<32 - 1}
	var each func(rest, taken []int)
	each = func(rest, taken []int) {
		if len(rest) == 0 {
			sameSort(t, "five rules", atPlaces(drawer(1), taken), sortModel(taken)...)
		}
		for i, place := range rest {
			each(slices.Concat(rest[:i], rest[i+1:]), append(slices.Clone(taken), place))
		}
	}
	each(walk, nil)
}

func TestSortOfLongListsWithAlikeOnes(t *testing.T) {
	draw := drawer(2)
	for _, length := range []int{2, 3, 12, 13, 20, 21, 64, 65, 500} {
		for _, kinds := range []int{1, 2, 5, 100, 1 << 32} {
			at := make([]int, length)
			for i := range at {
				at[i] = draw(kinds) * ((1<<32 - 1) / kinds)
			}
			sameSort(t, "a drawn list", atPlaces(draw, at), sortModel(at)...)
		}
	}
}

func TestSortOfAlikeOnes(t *testing.T) {
	a, b := rule(3<<16, 0), rule(0, 0)
	low := rule(3<<16|0xffff, 0xffff) // the lower bits do not count
	low.Id, low.Src.Len = 1, 0
	sameSort(t, "twins", []api.Rule{a, a, a}, 0, 1, 2)
	sameSort(t, "by the lower bits alone", []api.Rule{low, a}, 0, 1)
	sameSort(t, "by the lower bits alone", []api.Rule{a, low}, 0, 1)
	sameSort(t, "two kinds", []api.Rule{a, b, low, b, a}, 1, 3, 0, 2, 4)
}

// The walk of the order 16 begins with 0, 1, 1+i, i, as that of each even order does; the numbers' own order would be another one.
func TestSortGoesByTheWalk(t *testing.T) {
	l := []api.Rule{rule(1<<16, 0), rule(1<<16, 1<<16), rule(0, 1<<16), rule(0, 0), rule(65535<<16, 0), rule(65535<<16, 65535<<16), rule(0, 65535<<16)}
	sameSort(t, "corners", l, 3, 0, 1, 2, 6, 5, 4)
}

func TestSortLeavesItsListAndTheSpareRoom(t *testing.T) {
	room := atPlaces(drawer(3), []int{1 << 31, 7, 1 << 20, 3, 9, 1})
	before := slices.Clone(room)
	l := room[1:4]
	first := curve.Sort(l)
	second := curve.Sort(l)
	if !slices.Equal(room, before) {
		t.Errorf("the list is %v, was %v", room, before)
	}
	first[0] = 99
	if second[0] == 99 || curve.Sort(l)[0] == 99 {
		t.Error("two answers share memory")
	}
	sameSort(t, "the list once more", l, sortModel([]int{7, 1 << 20, 3})...)
}

func TestSortOfRulesThatMayNotBe(t *testing.T) {
	wrong := api.Rule{Id: -1, Src: api.Prefix{Addr: 2 << 16, Len: 99}, Dst: api.Prefix{Addr: 0, Len: -1}, Sport: api.Span{Lo: 5}, Action: 77}
	sameSort(t, "rules that may not be", []api.Rule{wrong, {}, wrong, {}}, 1, 3, 0, 2)
}

// P13.5

func TestPlaceOfWhatAtTells(t *testing.T) {
	for order := 1; order <= 16; order++ {
		for _, place := range places(order) {
			z, err := curve.At(order, place)
			if err != api.OK {
				t.Fatalf("At(%d, %d): %d", order, place, err)
			}
			samePlace(t, order, z, place, api.OK)
		}
	}
}

func TestAtIsWhatWalkGives(t *testing.T) {
	for order := 1; order <= small; order++ {
		place := 0
		for z := range curve.Walk(order) {
			sameAt(t, order, place, z, api.OK)
			place++
		}
		sameAt(t, order, place, 0, api.ErrCurvePoint)
	}
}

func isStep(z complex128) bool { return z == 1 || z == 1i || z == -1 || z == -1i }

func TestPointsBehindOneAnotherAreAStepApart(t *testing.T) {
	for order := 1; order <= small; order++ {
		last := complex(nan, 0)
		for z := range curve.Walk(order) {
			if last == last && !isStep(z-last) {
				t.Fatalf("Walk(%d): from %v to %v", order, last, z)
			}
			last = z
		}
	}
	for order := 1; order <= 16; order++ {
		for _, place := range places(order) {
			if place+1 == 1<<(2*order) {
				continue
			}
			a, err := curve.At(order, place)
			b, err2 := curve.At(order, place+1)
			if err != api.OK || err2 != api.OK || !isStep(b-a) {
				t.Fatalf("At(%d, %d): from %v to %v", order, place, a, b)
			}
		}
	}
}

func TestWhereTheWalkBeginsAndEnds(t *testing.T) {
	for order := 1; order <= 16; order++ {
		for z := range curve.Walk(order) {
			if !sameParts(z, 0) {
				t.Errorf("Walk(%d) begins at %v", order, z)
			}
			break
		}
		sameAt(t, order, 1<<(2*order)-1, point{1<<order - 1, 0}.z(), api.OK)
	}
	for order := 1; order <= small; order++ {
		var end complex128
		for z := range curve.Walk(order) {
			end = z
		}
		if !sameParts(end, point{1<<order - 1, 0}.z()) {
			t.Errorf("Walk(%d) ends at %v", order, end)
		}
	}
}

func TestWalkHasEachPointOnce(t *testing.T) {
	for order := 1; order <= small; order++ {
		seen := map[complex128]int{}
		for z := range curve.Walk(order) {
			seen[z]++
		}
		for x := range 1 << order {
			for y := range 1 << order {
				if n := seen[point{x, y}.z()]; n != 1 {
					t.Fatalf("Walk(%d): %d+%di is given %d times", order, x, y, n)
				}
			}
		}
		if len(seen) != 1<<(2*order) {
			t.Errorf("Walk(%d): %d points", order, len(seen))
		}
	}
}

// The chapter's table of examples, row by row.
func TestExamples(t *testing.T) {
	if got := slices.Collect(curve.Walk(1)); !slices.Equal(got, []complex128{0, 1i, 1 + 1i, 1}) {
		t.Errorf("the walk of the order 1: %v", got)
	}
	if got := slices.Collect(curve.Walk(2)); len(got) != 16 || !slices.Equal(got[:6], []complex128{0, 1, 1 + 1i, 1i, 2i, 3i}) {
		t.Errorf("the walk of the order 2: %v", got)
	}
	sameAt(t, 1, 3, 1, api.OK)
	sameAt(t, 2, 15, 3, api.OK)
	sameAt(t, 1, 4, 0, api.ErrCurvePoint)
	sameAt(t, 0, 0, 0, api.ErrCurveOrder)
	sameAt(t, 17, 0, 0, api.ErrCurveOrder)
	samePlace(t, 2, 2i, 4, api.OK)
	samePlace(t, 2, 0.5, 0, api.ErrCurvePoint)
	samePlace(t, 2, 4, 0, api.ErrCurvePoint)
	samePlace(t, 1, -1, 0, api.ErrCurvePoint)
	sameTurn(t, 2+1i, 1, -1+2i)
	sameTurn(t, 2+1i, -1, 1-2i)
	sameTurn(t, 2+1i, 6, -2-1i)
}
