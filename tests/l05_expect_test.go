package tests

import (
	"math"
	"math/big"
	"math/rand"
	"regexp"
	"slices"
	"strings"
	"testing"

	"loop.example/g01254/impl"
)

// Standard is that of chapter 5, for shorter tests.
type Standard = impl.Standard

func between(low, high int64) Span { return span(whole(low), whole(high)) }

func standard(name string, from int64, value Span, drift Frac, made, good int64) Standard {
	return Standard{Name: name, From: from, Value: value, Drift: drift, Made: made, Good: good}
}

// steady returns a standard without drift that is good on all days.
func steady(name string, from int64, value Span) Standard {
	return standard(name, from, value, whole(0), 0, impl.MaxDay)
}

// nameOf returns different names for different numbers.
func nameOf(i int) string {
	return strings.Repeat("z", i%5) + string(rune('a'+i%26)) + string(rune('a'+i/26%26)) + string(rune('a'+i/676))
}

// exampleChain is that of the document.
func exampleChain() []Standard {
	return []Standard{
		standard("metre", -1, between(1000, 1000), whole(0), 0, 1000),
		standard("bar", 0, between(1, 2), frac(1, 100), 10, 100),
		standard("tape", 1, between(-1, 1), whole(0), 60, 30),
	}
}

// treeChain has branches from a first one that drifts, and from a branch; another tree beside it; and several that have been made on the same day.
func treeChain() []Standard {
	return []Standard{
		standard("root", -1, between(0, 0), frac(1, 10), 0, 1000),
		standard("a", 0, between(1, 2), frac(1, 100), 10, 500),
		standard("b", 0, between(3, 5), whole(0), 30, 470),
		standard("c", 1, between(0, 1), frac(1, 5), 20, 100),
		standard("other", -1, between(2, 3), frac(1, 2), 5, 200),
		standard("d", 4, between(-1, 0), frac(1, 3), 40, 160),
		standard("e", 3, span(frac(-1, 2), frac(1, 3)), frac(1, 7), 45, 75),
		standard("f", 3, between(0, 0), whole(0), 45, 75),
		standard("g", 1, between(0, 1), frac(1, 100), 10, 500),
	}
}

// lineChain has standards each of which has calibrated the next one.
func lineChain(n int, value Span, drift Frac, days int64) []Standard {
	var list []Standard
	for i := range n {
		list = append(list, standard(nameOf(i), int64(i)-1, value, drift, int64(i)*days, days))
	}
	return list
}

func firstOnes(n int) []Standard {
	var list []Standard
	for i := range n {
		list = append(list, standard(nameOf(i), -1, between(int64(-i), int64(i%3)), whole(int64(i%2)), int64(i), int64(2*i)))
	}
	return list
}

// greatChains have spans that become too great on the way, each in another place, and those that nearly do.
func greatChains() [][]Standard {
	one, other := frac(1, 999999937), frac(1, 999999929)
	return [][]Standard{
		{steady("a", -1, between(most, most)), steady("b", 0, between(1, 1)), steady("c", 1, between(-1, -1)), steady("d", 1, between(0, 2))},
		{steady("a", -1, between(least, least)), steady("b", 0, between(-1, 0)), steady("c", 1, between(1, 1))},
		{steady("a", -1, between(most-1, most-1)), steady("b", 0, between(0, 1)), steady("c", 1, between(0, 0)), steady("d", 1, between(-1, 1))},
		{steady("a", -1, between(least, most)), steady("b", 0, between(0, 0)), steady("c", -1, between(0, most)), steady("d", -1, between(-1, most))},
		{standard("a", -1, between(0, 0), whole(most), 5, 9), standard("b", 0, between(0, 0), whole(most), 5, 9), standard("c", 0, between(0, 0), whole(1), 6, 9), standard("d", 0, between(0, 0), whole(0), 7, 9)},
		{standard("a", -1, between(0, 0), whole(most/2), 0, 5), standard("b", 0, between(0, 0), whole(most/4), 0, 5)},
		{standard("a", -1, between(0, most-10), whole(1), 0, 20), standard("b", 0, between(0, 0), whole(0), 10, 20), standard("c", 0, between(0, 0), whole(0), 11, 20)},
		{standard("a", -1, between(10-most, 0), whole(1), 0, 20), standard("b", 0, between(0, 0), whole(0), 10, 20), standard("c", 0, between(0, 0), whole(0), 11, 20)},
		{steady("a", -1, span(one, one)), steady("b", 0, span(other, other)), steady("c", -1, span(other, frac(1, 2))), steady("d", 0, span(whole(0), other))},
		{standard("a", -1, span(one, one), other, 0, 100), standard("b", 0, between(0, 0), other, 0, 100), standard("c", 0, between(0, 0), whole(0), 1, 100)},
		{standard("a", -1, between(most, most), whole(0), 0, 10), standard("b", 0, between(5, 6), whole(1), 0, 10), standard("c", 0, between(2, 3), whole(1), 0, 10), standard("d", 1, between(0, 0), whole(0), 1, 10)},
		{standard("a", -1, between(0, 0), whole(most), 0, 10), standard("b", 0, between(1, 1), whole(0), 3, 10), standard("c", 0, between(2, 2), whole(0), 3, 10), standard("d", 0, between(0, 0), whole(0), 4, 10), standard("e", 0, between(0, 0), whole(0), 5, 10)},
		{standard("a", -1, between(0, 0), frac(1, most), 0, impl.MaxDay), standard("b", 0, between(0, 0), frac(1, most-1), 1, impl.MaxDay)},
		{standard("a", -1, between(0, 0), whole(10000), 0, impl.MaxDay), standard("b", 0, between(0, 0), whole(10000), 0, impl.MaxDay), standard("c", -1, between(1, 1), whole(10001), 0, impl.MaxDay)},
	}
}

// handChains are small, and at the limits.
func handChains() [][]Standard {
	return append([][]Standard{
		nil, {}, exampleChain(), treeChain(), lineChain(30, between(-1, 2), frac(1, 10), 7), lineChain(5, between(3, 3), whole(0), 0), firstOnes(30), firstOnes(29), firstOnes(1),
		{standard("a", -1, between(0, 1), whole(0), 0, 0)}, {standard("abcdefghijkl", -1, between(0, 1), whole(0), impl.MaxDay, impl.MaxDay)}, {standard("z", -1, between(least, least), frac(1, most), impl.MaxDay, 0)},
		{standard("a", -1, between(0, 1), whole(0), 3, 7), standard("aa", 0, between(0, 1), whole(0), 10, 0), standard("aaa", 1, between(0, 1), whole(0), 10, 0), standard("aaaa", 0, between(0, 1), whole(0), 3, 50)},
		{standard("a", -1, between(0, 1), whole(0), 0, impl.MaxDay), standard("b", 0, between(0, 1), frac(1, 2), impl.MaxDay, impl.MaxDay), standard("c", 1, between(0, 1), whole(1), impl.MaxDay, 0)},
		{standard("a", -1, between(0, 1), whole(0), 50000, 50001), standard("b", -1, between(0, 1), whole(0), 50000, 50000), standard("c", -1, between(0, 1), whole(0), 50000, 49999)},
		{standard("a", -1, between(0, 4), whole(0), 0, 20), standard("b", -1, between(0, 3), whole(0), 0, 10), standard("c", -1, between(1, 4), whole(0), 0, 20), standard("d", 1, between(0, 0), whole(0), 4, 16), standard("e", -1, between(0, 2), whole(0), 30, 0)},
	}, greatChains()...)
}

// someChain returns a chain on not so many days, so that standards are made on the first and on the last good day of others.
func someChain(random *rand.Rand, n int, days int64, from []Frac) []Standard {
	var list []Standard
	for i := range n {
		low, high := from[random.Intn(len(from))], from[random.Intn(len(from))]
		if rat(low).Cmp(rat(high)) > 0 {
			low, high = high, low
		}
		s := standard(nameOf(i), -1, span(low, high), from[random.Intn(len(from))], random.Int63n(days), random.Int63n(days))
		s.Drift.P = max(s.Drift.P, -s.Drift.P)
		if i > 0 && random.Intn(6) != 0 {
			s.From = random.Int63n(int64(i))
			by := list[s.From]
			s.Made = min(by.Made+[]int64{0, random.Int63n(by.Good + 1), by.Good}[random.Intn(3)], impl.MaxDay)
		}
		list = append(list, s)
	}
	return list
}

func tinyFracs() []Frac {
	return []Frac{whole(0), whole(0), whole(1), whole(-1), whole(2), frac(1, 2), frac(-1, 2), frac(3, 4), frac(1, 10), frac(-1, 10)}
}

// validChains has those by hand, and such with numbers of all kinds.
func validChains() [][]Standard {
	list := handChains()
	random := rand.New(rand.NewSource(5))
	for range 60 {
		list = append(list, someChain(random, 1+random.Intn(9), 12, tinyFracs()))
	}
	for range 10 {
		list = append(list, someChain(random, 10+random.Intn(21), 40, tinyFracs()))
	}
	for range 20 {
		list = append(list, someChain(random, 1+random.Intn(8), impl.MaxDay+1, smallFracs()), someChain(random, 1+random.Intn(6), 20, validFracs()))
	}
	return list
}

// changed returns a chain with another standard in it, or behind it.
func changed(list []Standard, i int, change func(s *Standard)) []Standard {
	list = slices.Clone(list)
	change(&list[i])
	return list
}

// badStandards returns changes after which a standard is not valid, whichever chain it is in.
func badStandards() []func(s *Standard) {
	var list []func(s *Standard)
	for _, name := range []string{
		"", "abcdefghijklm", "A", "Z", "aB", "a1", "1", "a b", " a", "a ", "-", "a-b", "a\n", "\n", "`", "{", "a{", "ä", "aä", "\xff", "a\x00", "a.b", strings.Repeat("a", 13), strings.Repeat("a", 100), strings.Repeat("A", 12),
	} {
		list = append(list, func(s *Standard) { s.Name = name })
	}
	for _, a := range invalidFracs() {
		list = append(list, func(s *Standard) { s.Drift = a })
	}
	for _, a := range []Frac{whole(-1), frac(-1, most), whole(least), frac(-1, 2)} {
		list = append(list, func(s *Standard) { s.Drift = a })
	}
	for _, v := range invalidSpans() {
		list = append(list, func(s *Standard) { s.Value = v })
	}
	for _, n := range noDays() {
		list = append(list, func(s *Standard) { s.Made = n }, func(s *Standard) { s.Good = n })
	}
	for _, n := range []int64{-2, -3, 30, 31, 1000, math.MaxInt64, math.MinInt64, math.MinInt64 + 1, 1 << 32, -1 << 32} {
		list = append(list, func(s *Standard) { s.From = n })
	}
	return list
}

func noDays() []int64 {
	return []int64{-1, -2, impl.MaxDay + 1, impl.MaxDay + 2, -impl.MaxDay, 2 * impl.MaxDay, 1<<32 + 7, math.MaxInt64, math.MaxInt64 - 1, math.MinInt64, math.MinInt64 + 1}
}

// invalidChains has one reason for each chain not to be valid.
func invalidChains() [][]Standard {
	zero, example := Standard{}, exampleChain()
	list := [][]Standard{
		{zero}, append(exampleChain(), zero), firstOnes(31), lineChain(31, between(0, 0), whole(0), 1), firstOnes(100),
		{standard("a", 0, between(0, 0), whole(0), 0, 0)}, {standard("a", 1, between(0, 0), whole(0), 0, 0), standard("b", -1, between(0, 0), whole(0), 0, 0)},
		{steady("a", -1, between(0, 0)), steady("b", -1, between(0, 0)), steady("a", -1, between(1, 1))}, {steady("a", -1, between(0, 0)), steady("a", 0, between(0, 0))},
		{standard("a", -1, between(0, 0), whole(0), math.MaxInt64, math.MaxInt64), standard("b", 0, between(0, 0), whole(0), 0, 0)},
		{standard("a", -1, between(0, 0), whole(0), math.MinInt64, math.MinInt64), standard("b", 0, between(0, 0), whole(0), 0, 0)},
	}
	for i := range example {
		for _, bad := range badStandards() {
			list = append(list, changed(example, i, bad))
		}
		for _, from := range []int64{int64(i), int64(i) + 1, 2, 3, 4} {
			if from >= int64(i) {
				list = append(list, changed(example, i, func(s *Standard) { s.From = from }))
			}
		}
		for k := range i {
			list = append(list, changed(example, i, func(s *Standard) { s.Name = example[k].Name }))
		}
	}
	for _, day := range []int64{9, 111, 0, impl.MaxDay} { // ahead of the first good day of the bar, and behind its last one
		list = append(list, changed(example, 2, func(s *Standard) { s.Made = day }))
	}
	return append(list, changed(example, 0, func(s *Standard) { s.Made = 11 }), changed(example, 0, func(s *Standard) { s.Good = 9 }), changed(example, 1, func(s *Standard) { s.Made = 61 }), changed(example, 1, func(s *Standard) { s.Good = 49 }))
}

var namePattern = regexp.MustCompile(`^[a-z]{1,12}$`)

// isChain holds each standard of a list against the rules of the document.
func isChain(list []Standard) bool {
	isDay := func(n int64) bool { return n >= 0 && n <= 100000 }
	for i, s := range list {
		if i == 30 || !namePattern.MatchString(s.Name) || slices.ContainsFunc(list[:i], func(o Standard) bool { return o.Name == s.Name }) {
			return false
		}
		if !impl.ValidSpan(s.Value) || !impl.ValidFrac(s.Drift) || s.Drift.P < 0 || !isDay(s.Made) || !isDay(s.Good) {
			return false
		}
		if s.From == -1 {
			continue
		}
		if s.From < 0 || s.From >= int64(i) || !isGood(list, s.From, s.Made) {
			return false
		}
	}
	return true
}

func isGood(list []Standard, i, day int64) bool {
	return list[i].Made <= day && day-list[i].Made <= list[i].Good
}

// askCode returns the error of a day, and of indices, that a valid chain is asked for.
func askCode(list []Standard, day int64, indices ...int64) int64 {
	for _, i := range indices {
		if i < 0 || i >= int64(len(list)) {
			return impl.ErrRange
		}
	}
	if day < 0 || day > 100000 {
		return impl.ErrRange
	}
	return impl.OK
}

// goodCode is askCode, and then whether all of them are good on the day.
func goodCode(list []Standard, day int64, indices ...int64) int64 {
	if code := askCode(list, day, indices...); code != impl.OK {
		return code
	}
	for _, i := range indices {
		if !isGood(list, i, day) {
			return impl.ErrState
		}
	}
	return impl.OK
}

// indicesOf returns all indices of a chain, and those ahead of it and behind it.
func indicesOf(list []Standard) []int64 {
	all := []int64{math.MinInt64, -2, -1, int64(len(list)), int64(len(list)) + 1, math.MaxInt64}
	return append(all, rising64(len(list))...)
}

// daysOf returns the days on which something begins or ends in a chain, those beside them, and days that are none.
func daysOf(list []Standard) []int64 {
	days := append(noDays(), 0, 1, 60, impl.MaxDay-1, impl.MaxDay)
	for _, s := range list {
		last := s.Made + s.Good
		days = append(days, s.Made-1, s.Made, s.Made+1, s.Made+s.Good/2, last-1, last, last+1)
	}
	slices.Sort(days)
	return slices.Compact(days)
}

// onDays calls check with valid chains, indices and days: with all of them, or with many of them if there are too many.
func onDays(check func(list []Standard, i, day int64)) {
	random := rand.New(rand.NewSource(55))
	for _, list := range validChains() {
		indices, days := indicesOf(list), daysOf(list)
		all := len(indices) * len(days)
		for _, i := range indices {
			for _, day := range days {
				if random.Intn(all) < 1200 {
					check(list, i, day)
				}
			}
		}
	}
}

// pathIn returns the path to a standard.
func pathIn(list []Standard, i int64) []int64 {
	if list[i].From == -1 {
		return []int64{i}
	}
	return append(pathIn(list, list[i].From), i)
}

// ends are those of a span, with any parts.
type ends struct{ low, high *big.Rat }

func (r *reckoner) wider(e ends, drift Frac, days int64) ends {
	d := r.times(rat(drift), big.NewRat(days, 1))
	return ends{low: r.minus(e.low, d), high: r.plus(e.high, d)}
}

func (r *reckoner) difference(e, o ends) ends {
	return ends{low: r.minus(e.low, o.high), high: r.minus(e.high, o.low)}
}

// along goes along a path, from 0 to 0 ahead of its first standard, to a day.
func (r *reckoner) along(list []Standard, path []int64, day int64) ends {
	e := ends{low: new(big.Rat), high: new(big.Rat)}
	for n, i := range path {
		e = ends{low: r.plus(e.low, rat(list[i].Value.Low)), high: r.plus(e.high, rat(list[i].Value.High))}
		e = r.wider(e, list[i].Drift, untilNext(list, path, n, day)-list[i].Made)
	}
	return e
}

// untilNext returns the day up to which a standard on a path counts.
func untilNext(list []Standard, path []int64, n int, day int64) int64 {
	if n+1 < len(path) {
		return list[path[n+1]].Made
	}
	return day
}

func (r *reckoner) toldEnds(e ends) (Span, int64) {
	if r.beyond {
		return Span{}, impl.ErrLimit
	}
	return toldSpan(e.low, e.high)
}

func expectSpanOn(list []Standard, i, day int64) (Span, int64) {
	if code := goodCode(list, day, i); code != impl.OK {
		return Span{}, code
	}
	var r reckoner
	return r.toldEnds(r.along(list, pathIn(list, i), day))
}

// expectDifferenceOn cuts off what both paths have in common.
func expectDifferenceOn(list []Standard, i, k, day int64) (Span, int64) {
	if code := goodCode(list, day, i, k); code != impl.OK {
		return Span{}, code
	}
	one, other := pathIn(list, i), pathIn(list, k)
	common := int64(-1)
	for len(one) > 0 && len(other) > 0 && one[0] == other[0] {
		common, one, other = one[0], one[1:], other[1:]
	}
	var r reckoner
	e := r.difference(r.along(list, one, day), r.along(list, other, day))
	if common >= 0 {
		days := untilNext(list, one, -1, day) - untilNext(list, other, -1, day)
		e = r.wider(e, list[common].Drift, max(days, -days))
	}
	return r.toldEnds(e)
}

// sameChain fails if a chain and its code are not those that are expected.
func sameChain(t *testing.T, what any, got []Standard, code int64, want []Standard, wantCode int64) {
	t.Helper()
	if !slices.Equal(got, want) || code != wantCode {
		t.Errorf("%+v: got %+v and %s, want %+v and %s", what, got, impl.CodeName(code), want, impl.CodeName(wantCode))
	}
}

// checkInvalidChains fails unless a chain that is not valid is told ahead of all other errors, with a zero value.
func checkInvalidChains[T any](t *testing.T, isZero func(T) bool, call func(list []Standard, i, k, day int64) (T, int64)) {
	t.Helper()
	for n, list := range invalidChains() {
		for _, i := range []int64{0, 1, -1, int64(len(list)), math.MinInt64, math.MaxInt64} {
			for _, day := range []int64{60, -1, impl.MaxDay + 1, math.MinInt64} {
				if got, code := call(list, i, int64(n%3), day); code != impl.ErrInvalid || !isZero(got) {
					t.Fatalf("%+v with %d and %d: got %+v and %s", list, i, day, got, impl.CodeName(code))
				}
			}
		}
	}
}

func isZero[T comparable](x T) bool {
	var zero T
	return x == zero
}

func isEmpty[T any](list []T) bool { return len(list) == 0 }
