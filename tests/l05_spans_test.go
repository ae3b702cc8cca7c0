package tests

import (
	"math/big"
	"math/rand"
	"slices"
	"testing"

	"loop.example/g01254/impl"
)

// TestExampleOfChains is the document's.
func TestExampleOfChains(t *testing.T) {
	list := exampleChain()
	bar, code := impl.SpanOn(list, 1, 110)
	same(t, "bar", bar, code, between(1000, 1003), impl.OK)
	tape, code := impl.SpanOn(list, 2, 60)
	same(t, "tape", tape, code, span(frac(1999, 2), frac(2007, 2)), impl.OK)
	widest, width, code := impl.WidestLink(list, 2, 60)
	same(t, "widest", asked[Frac]{widest, width}, code, asked[Frac]{1, whole(2)}, impl.OK)
	difference, code := impl.DifferenceOn(list, 2, 1, 60)
	same(t, "difference", difference, code, between(-1, 1), impl.OK)
}

// asked is a standard and what is told of it.
type asked[T comparable] struct {
	i    int64
	what T
}

func TestSpanOn(t *testing.T) {
	told := map[int64]int{}
	onDays(func(list []Standard, i, day int64) {
		got, code := impl.SpanOn(list, i, day)
		want, wantCode := expectSpanOn(list, i, day)
		same(t, []any{list, i, day}, got, code, want, wantCode)
		told[code]++
	})
	enough(t, told, 100, impl.OK, impl.ErrRange, impl.ErrState, impl.ErrLimit)
	checkInvalidChains(t, isZero[Span], func(list []Standard, i, k, day int64) (Span, int64) { return impl.SpanOn(list, i, day) })
}

// TestSpanOnByHand calculates spans of which each drift begins on another day.
func TestSpanOnByHand(t *testing.T) {
	for _, c := range []struct {
		i, day int64
		want   Span
	}{
		{0, 0, between(0, 0)}, {0, 10, between(-1, 1)}, {0, 1000, between(-100, 100)},
		{1, 10, between(0, 3)}, {1, 50, span(frac(-2, 5), frac(17, 5))}, {1, 510, between(-5, 8)},
		{2, 30, between(0, 8)}, {2, 500, between(0, 8)},
		{3, 20, span(frac(-1, 10), frac(41, 10))}, {3, 30, span(frac(-21, 10), frac(61, 10))},
		{4, 5, between(2, 3)}, {4, 15, between(-3, 8)}, {5, 40, span(frac(-33, 2), frac(41, 2))}, {5, 43, span(frac(-35, 2), frac(43, 2))},
	} {
		got, code := impl.SpanOn(treeChain(), c.i, c.day)
		same(t, c, got, code, c.want, impl.OK)
	}
	for day, want := range map[int64]int64{-1: impl.ErrRange, 0: impl.ErrState, 9: impl.ErrState, 10: impl.OK, 110: impl.OK, 111: impl.ErrState, impl.MaxDay: impl.ErrState, impl.MaxDay + 1: impl.ErrRange} {
		if got, code := impl.SpanOn(exampleChain(), 1, day); code != want || (code != impl.OK) != (got == Span{}) {
			t.Errorf("on the day %d: got %v and %s", day, got, impl.CodeName(code))
		}
	}
}

// TestErrorsOfSpanOn has two errors at a time.
func TestErrorsOfSpanOn(t *testing.T) {
	beyond := []Standard{standard("a", -1, between(most, most), whole(most), 5, 9), standard("b", 0, between(1, 1), whole(0), 6, 9)}
	for _, c := range []struct{ i, day, want int64 }{
		{0, 5, impl.OK}, {0, 6, impl.ErrLimit}, {1, 6, impl.ErrLimit}, {1, 15, impl.ErrLimit}, {0, 4, impl.ErrState}, {1, 5, impl.ErrState}, {1, 16, impl.ErrState}, {0, 15, impl.ErrState}, {1, -1, impl.ErrRange}, {2, 6, impl.ErrRange}, {-1, 6, impl.ErrRange}, {2, 0, impl.ErrRange},
	} {
		if got, code := impl.SpanOn(beyond, c.i, c.day); code != c.want || (code != impl.OK) != (got == Span{}) {
			t.Errorf("%+v: got %v and %s", c, got, impl.CodeName(code))
		}
	}
	// What is too great on the way is told, though it would not be at the end; and where the drift is not yet counted, it does not matter.
	there := []Standard{steady("a", -1, between(most, most)), steady("b", 0, between(1, 1)), steady("c", 1, between(-1, -1))}
	got, code := impl.SpanOn(there, 2, 0)
	same(t, there, got, code, Span{}, impl.ErrLimit)
	edge := []Standard{standard("a", -1, between(0, 0), whole(most/2), 0, 9), standard("b", 0, between(0, 0), whole(0), 2, 9), standard("c", 0, between(0, 0), whole(0), 3, 9)}
	got, code = impl.SpanOn(edge, 1, 2)
	same(t, edge, got, code, between(least, most), impl.OK)
	got, code = impl.SpanOn(edge, 2, 3)
	same(t, edge, got, code, Span{}, impl.ErrLimit)
}

// expectWidest looks for the first link that adds more than those ahead of it on the path.
func expectWidest(list []Standard, i, day int64) (asked[Frac], int64) {
	if code := goodCode(list, day, i); code != impl.OK {
		return asked[Frac]{}, code
	}
	var r reckoner
	path, widths := pathIn(list, i), []*big.Rat(nil)
	for n, k := range path {
		s := list[k]
		twice := big.NewRat(2*(untilNext(list, path, n, day)-s.Made), 1)
		widths = append(widths, r.plus(r.minus(rat(s.Value.High), rat(s.Value.Low)), r.times(rat(s.Drift), twice)))
	}
	best := 0
	for n := range widths {
		if widths[n].Cmp(widths[best]) > 0 {
			best = n
		}
	}
	width, code := r.told(widths[best])
	if code != impl.OK {
		return asked[Frac]{}, code
	}
	return asked[Frac]{path[best], width}, code
}

func widestLink(list []Standard, i, day int64) (asked[Frac], int64) {
	at, width, code := impl.WidestLink(list, i, day)
	return asked[Frac]{at, width}, code
}

func TestWidestLink(t *testing.T) {
	told := map[int64]int{}
	onDays(func(list []Standard, i, day int64) {
		got, code := widestLink(list, i, day)
		want, wantCode := expectWidest(list, i, day)
		same(t, []any{list, i, day}, got, code, want, wantCode)
		told[code]++
	})
	enough(t, told, 100, impl.OK, impl.ErrRange, impl.ErrState, impl.ErrLimit)
	checkInvalidChains(t, isZero[asked[Frac]], func(list []Standard, i, k, day int64) (asked[Frac], int64) { return widestLink(list, i, day) })
}

func TestWidestLinkByHand(t *testing.T) {
	even := lineChain(4, between(0, 2), whole(0), 5)
	rising := lineChain(3, between(0, 2), frac(1, 10), 5)
	for _, c := range []struct {
		list   []Standard
		i, day int64
		want   asked[Frac]
		code   int64
	}{
		{exampleChain(), 0, 0, asked[Frac]{0, whole(0)}, impl.OK}, {exampleChain(), 1, 10, asked[Frac]{1, whole(1)}, impl.OK}, {exampleChain(), 1, 110, asked[Frac]{1, whole(3)}, impl.OK}, {exampleChain(), 2, 90, asked[Frac]{1, whole(2)}, impl.OK},
		{even, 0, 3, asked[Frac]{0, whole(2)}, impl.OK}, {even, 1, 5, asked[Frac]{0, whole(2)}, impl.OK}, {even, 3, 20, asked[Frac]{0, whole(2)}, impl.OK},
		{rising, 2, 10, asked[Frac]{0, whole(3)}, impl.OK}, {rising, 2, 15, asked[Frac]{0, whole(3)}, impl.OK}, {rising, 1, 10, asked[Frac]{0, whole(3)}, impl.OK}, {rising, 1, 11, asked[Frac]{}, impl.ErrState}, {rising, 1, 4, asked[Frac]{}, impl.ErrState},
		// Here the span itself is too great, but no link is; there it is the other way about.
		{[]Standard{steady("a", -1, between(most, most)), steady("b", 0, between(1, 3))}, 1, 7, asked[Frac]{1, whole(2)}, impl.OK},
		{[]Standard{steady("a", -1, between(least, most))}, 0, 0, asked[Frac]{}, impl.ErrLimit},
		{[]Standard{steady("a", -1, between(-1, most)), steady("b", 0, between(0, 0))}, 1, 0, asked[Frac]{}, impl.ErrLimit},
		{[]Standard{steady("a", -1, between(0, 0)), steady("b", 0, between(-1, most))}, 1, 0, asked[Frac]{}, impl.ErrLimit},
		// Drift times no days is 0, however great the Drift is.
		{[]Standard{standard("a", -1, between(0, 3), whole(most), 7, 9)}, 0, 7, asked[Frac]{0, whole(3)}, impl.OK},
		{[]Standard{standard("a", -1, between(0, 0), whole(most/2), 7, 9)}, 0, 8, asked[Frac]{0, whole(most)}, impl.OK},
		{[]Standard{standard("a", -1, between(0, 0), whole(most/2), 7, 9)}, 0, 9, asked[Frac]{}, impl.ErrLimit},
		{[]Standard{standard("a", -1, between(0, 1), whole(most/2), 7, 9)}, 0, 8, asked[Frac]{}, impl.ErrLimit},
		{[]Standard{standard("a", -1, between(0, 1), whole(most/2), 7, 9)}, 0, 6, asked[Frac]{}, impl.ErrState},
		{[]Standard{standard("a", -1, between(0, 1), whole(most/2), 7, 9)}, 1, 6, asked[Frac]{}, impl.ErrRange},
	} {
		got, code := widestLink(c.list, c.i, c.day)
		same(t, c, got, code, c.want, c.code)
	}
}

// expectBestOn calculates all spans and widths, and takes the first one of the narrowest.
func expectBestOn(list []Standard, day int64) (asked[Span], int64) {
	if code := askCode(list, day); code != impl.OK {
		return asked[Span]{}, code
	}
	var r reckoner
	var good []int64
	var all []ends
	var widths []*big.Rat
	for i := range int64(len(list)) {
		if isGood(list, i, day) {
			e := r.along(list, pathIn(list, i), day)
			good, all, widths = append(good, i), append(all, e), append(widths, r.minus(e.high, e.low))
		}
	}
	if len(good) == 0 {
		return asked[Span]{}, impl.ErrNotFound
	}
	best := leastIndex(widths)
	s, code := r.toldEnds(all[best])
	if code != impl.OK {
		return asked[Span]{}, code
	}
	return asked[Span]{good[best], s}, code
}

func bestOn(list []Standard, day int64) (asked[Span], int64) {
	i, s, code := impl.BestOn(list, day)
	return asked[Span]{i, s}, code
}

func TestBestOn(t *testing.T) {
	told := map[int64]int{}
	for _, list := range validChains() {
		for _, day := range daysOf(list) {
			got, code := bestOn(list, day)
			want, wantCode := expectBestOn(list, day)
			same(t, []any{list, day}, got, code, want, wantCode)
			told[code]++
		}
	}
	enough(t, told, 50, impl.OK, impl.ErrRange, impl.ErrNotFound, impl.ErrLimit)
	checkInvalidChains(t, isZero[asked[Span]], func(list []Standard, i, k, day int64) (asked[Span], int64) { return bestOn(list, day) })
}

func TestBestOnByHand(t *testing.T) {
	wide := standard("wide", -1, between(least, most), whole(0), 10, 10)
	list := []Standard{
		standard("a", -1, between(0, 3), whole(0), 0, 100), standard("b", -1, between(5, 7), frac(1, 8), 2, 100), standard("c", -1, between(1, 3), frac(1, 8), 2, 100), standard("d", 1, between(0, 0), whole(0), 3, 2),
	}
	for _, c := range []struct {
		list []Standard
		day  int64
		want asked[Span]
		code int64
	}{
		{list, 0, asked[Span]{0, between(0, 3)}, impl.OK}, {list, 1, asked[Span]{0, between(0, 3)}, impl.OK}, {list, 2, asked[Span]{1, between(5, 7)}, impl.OK}, {list, 3, asked[Span]{1, span(frac(39, 8), frac(57, 8))}, impl.OK},
		{list, 4, asked[Span]{3, span(frac(39, 8), frac(57, 8))}, impl.OK}, {list, 5, asked[Span]{3, span(frac(39, 8), frac(57, 8))}, impl.OK}, {list, 6, asked[Span]{0, between(0, 3)}, impl.OK}, {list, 100, asked[Span]{0, between(0, 3)}, impl.OK},
		{list, 103, asked[Span]{}, impl.ErrNotFound}, {nil, 0, asked[Span]{}, impl.ErrNotFound}, {nil, -1, asked[Span]{}, impl.ErrRange}, {nil, impl.MaxDay + 1, asked[Span]{}, impl.ErrRange}, {list, -1, asked[Span]{}, impl.ErrRange},
		{[]Standard{wide}, 10, asked[Span]{}, impl.ErrLimit}, {[]Standard{wide}, 9, asked[Span]{}, impl.ErrNotFound}, {[]Standard{wide}, 21, asked[Span]{}, impl.ErrNotFound},
		{append(list[:4:4], wide), 10, asked[Span]{}, impl.ErrLimit}, {append(list[:4:4], wide), 21, asked[Span]{0, between(0, 3)}, impl.OK}, {append([]Standard{wide}, list[0]), 20, asked[Span]{}, impl.ErrLimit},
	} {
		got, code := bestOn(c.list, c.day)
		same(t, c, got, code, c.want, c.code)
	}
}

// onPairs calls check with valid chains, two indices and days, many of which are those on which both are good.
func onPairs(check func(list []Standard, i, k, day int64)) {
	random := rand.New(rand.NewSource(555))
	for _, list := range validChains() {
		indices, days := indicesOf(list), daysOf(list)
		for range 300 {
			i, k, day := indices[random.Intn(len(indices))], indices[random.Intn(len(indices))], days[random.Intn(len(days))]
			check(list, i, k, day)
			if both := slices.DeleteFunc(rising64(len(list)), func(n int64) bool { return !isGood(list, n, day) }); len(both) > 0 && askCode(list, day) == impl.OK {
				check(list, both[random.Intn(len(both))], both[random.Intn(len(both))], day)
			}
		}
	}
}

func TestDifferenceOn(t *testing.T) {
	told := map[int64]int{}
	onPairs(func(list []Standard, i, k, day int64) {
		got, code := impl.DifferenceOn(list, i, k, day)
		want, wantCode := expectDifferenceOn(list, i, k, day)
		same(t, []any{list, i, k, day}, got, code, want, wantCode)
		told[code]++
	})
	enough(t, told, 100, impl.OK, impl.ErrRange, impl.ErrState, impl.ErrLimit)
	checkInvalidChains(t, isZero[Span], func(list []Standard, i, k, day int64) (Span, int64) { return impl.DifferenceOn(list, i, k, day) })
	checkInvalidChains(t, isZero[Span], func(list []Standard, i, k, day int64) (Span, int64) { return impl.DifferenceOn(list, k, i, day) })
}

// TestDifferenceOnByHand has each kind of two standards, and each day on which a drift begins to count.
func TestDifferenceOnByHand(t *testing.T) {
	for _, c := range []struct {
		what      string
		i, k, day int64
		want      Span
	}{
		{"a and b", 1, 2, 50, span(frac(-32, 5), frac(7, 5))}, {"b and a", 2, 1, 50, span(frac(-7, 5), frac(32, 5))}, {"a and b on the day of b", 1, 2, 30, span(frac(-31, 5), frac(6, 5))},
		{"a and the root", 1, 0, 50, span(frac(-17, 5), frac(32, 5))}, {"the root and a", 0, 1, 50, span(frac(-32, 5), frac(17, 5))}, {"a and the root at first", 1, 0, 10, between(1, 2)},
		{"b and the root", 2, 0, 50, between(1, 7)}, {"c and a", 3, 1, 50, span(frac(-63, 10), frac(73, 10))}, {"a and c", 1, 3, 50, span(frac(-73, 10), frac(63, 10))}, {"c and a at first", 3, 1, 20, between(0, 1)},
		{"c and b", 3, 2, 50, span(frac(-121, 10), frac(81, 10))}, {"c and the root", 3, 0, 50, span(frac(-91, 10), frac(131, 10))},
		{"a and g", 1, 8, 50, span(frac(-9, 5), frac(4, 5))}, {"e and f", 6, 7, 52, span(frac(-3, 2), frac(4, 3))}, {"e and f at first", 6, 7, 45, span(frac(-1, 2), frac(1, 3))},
		{"f and c", 7, 3, 45, between(0, 0)}, {"f and c later", 7, 3, 55, between(-2, 2)},
		{"none in common", 1, 4, 10, span(frac(-11, 2), frac(7, 2))}, {"none in common later", 5, 0, 40, span(frac(-41, 2), frac(49, 2))}, {"none in common at the end", 0, 5, 43, span(frac(-129, 5), frac(109, 5))},
		{"the root and itself", 0, 0, 1000, between(0, 0)}, {"c and itself", 3, 3, 50, between(0, 0)}, {"other and itself", 4, 4, 205, between(0, 0)},
	} {
		got, code := impl.DifferenceOn(treeChain(), c.i, c.k, c.day)
		same(t, c.what, got, code, c.want, impl.OK)
	}
	// What is in common does not count, even if it is too great; and what lies behind it does.
	great := []Standard{
		standard("a", -1, between(least, most), whole(most), 0, 100), standard("b", 0, between(1, 2), whole(0), 50, 50), standard("c", 0, between(1, 2), whole(0), 50, 50), standard("d", 0, between(1, 2), whole(0), 51, 49),
		standard("e", 1, between(most, most), whole(0), 60, 40), standard("f", 4, between(0, 0), whole(0), 60, 40), standard("g", -1, between(0, 0), whole(0), 0, 100),
	}
	for _, c := range []struct {
		i, k, day int64
		want      Span
		code      int64
	}{
		{1, 2, 100, between(-1, 1), impl.OK}, {0, 0, 100, between(0, 0), impl.OK}, {4, 4, 60, between(0, 0), impl.OK}, {1, 0, 50, between(1, 2), impl.OK}, {1, 0, 51, Span{}, impl.ErrLimit}, {1, 3, 51, Span{}, impl.ErrLimit}, {4, 1, 60, between(most, most), impl.OK}, {1, 4, 60, between(least, least), impl.OK},
		{5, 4, 60, between(0, 0), impl.OK}, {5, 1, 60, between(most, most), impl.OK}, {4, 2, 60, Span{}, impl.ErrLimit}, {0, 6, 0, between(least, most), impl.OK}, {0, 6, 1, Span{}, impl.ErrLimit}, {6, 1, 50, Span{}, impl.ErrLimit},
		{1, 2, 49, Span{}, impl.ErrState}, {0, 1, 49, Span{}, impl.ErrState}, {1, 0, 49, Span{}, impl.ErrState}, {4, 4, 59, Span{}, impl.ErrState}, {0, 0, 101, Span{}, impl.ErrState}, {6, 0, 101, Span{}, impl.ErrState},
		{1, 7, 49, Span{}, impl.ErrRange}, {7, 1, 49, Span{}, impl.ErrRange}, {7, 7, 49, Span{}, impl.ErrRange}, {-1, 0, 101, Span{}, impl.ErrRange}, {0, -1, 0, Span{}, impl.ErrRange}, {-1, -1, 0, Span{}, impl.ErrRange}, {0, 0, -1, Span{}, impl.ErrRange}, {0, 0, impl.MaxDay + 1, Span{}, impl.ErrRange},
	} {
		got, code := impl.DifferenceOn(great, c.i, c.k, c.day)
		same(t, c, got, code, c.want, c.code)
	}
}

func TestAreApart(t *testing.T) {
	told := map[bool]int{}
	onPairs(func(list []Standard, i, k, day int64) {
		difference, wantCode := expectDifferenceOn(list, i, k, day)
		want := wantCode == impl.OK && (difference.Low.P > 0 || difference.High.P < 0)
		got, code := impl.AreApart(list, i, k, day)
		same(t, []any{list, i, k, day}, got, code, want, wantCode)
		told[got]++
	})
	if told[true] < 100 || told[false] < 100 {
		t.Errorf("told %v", told)
	}
	checkInvalidChains(t, isZero[bool], func(list []Standard, i, k, day int64) (bool, int64) { return impl.AreApart(list, i, k, day) })
	list := []Standard{
		standard("a", -1, between(0, 0), whole(0), 0, 100), standard("b", 0, between(1, 2), frac(1, 10), 0, 100), standard("c", 0, between(0, 2), whole(0), 0, 100), standard("d", 0, between(-2, 0), whole(0), 0, 100), standard("e", 0, span(frac(-1, 2), frac(-1, most)), whole(0), 0, 100), standard("f", -1, span(frac(1, 1000), whole(1)), whole(0), 0, 100),
	}
	for _, c := range []struct {
		i, k, day int64
		want      bool
	}{
		{0, 0, 0, false}, {1, 0, 0, true}, {0, 1, 0, true}, {1, 0, 9, true}, {1, 0, 10, false}, {0, 1, 10, false}, {1, 0, 11, false}, {2, 0, 0, false}, {0, 2, 0, false}, {3, 0, 0, false}, {0, 3, 0, false}, {4, 0, 0, true}, {0, 4, 0, true}, {5, 0, 0, true}, {5, 2, 0, false}, {5, 3, 0, true}, {1, 1, 50, false}, {3, 1, 0, true}, {2, 1, 0, false}, {2, 3, 0, false},
	} {
		got, code := impl.AreApart(list, c.i, c.k, c.day)
		same(t, c, got, code, c.want, impl.OK)
	}
}
