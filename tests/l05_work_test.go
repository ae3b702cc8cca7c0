package tests

import (
	"math"
	"math/rand"
	"slices"
	"testing"

	"loop.example/g01254/impl"
)

// candidates returns standards for a chain: some that it can take, on the first and on the last good day of another one, and some that it can't.
func candidates(list []Standard) []Standard {
	all := []Standard{{}, standard("ell", -1, between(0, 0), whole(0), 0, 0), standard("ell", -1, between(-1, 2), frac(1, 3), impl.MaxDay, impl.MaxDay)}
	for i, s := range list {
		for _, day := range []int64{s.Made - 1, s.Made, s.Made + 1, s.Made + s.Good - 1, s.Made + s.Good, s.Made + s.Good + 1} {
			all = append(all, standard("ell", int64(i), between(0, 1), whole(0), day, 5))
		}
		all = append(all, standard(s.Name, int64(i), between(0, 1), whole(0), s.Made, 5), standard(s.Name, -1, between(0, 1), whole(0), 0, 0))
	}
	return append(all, standard("ell", int64(len(list)), between(0, 0), whole(0), 0, 0), standard("ell", -2, between(0, 0), whole(0), 0, 0), standard("ell", math.MaxInt64, between(0, 0), whole(0), 0, 0), standard("ell", math.MinInt64, between(0, 0), whole(0), 0, 0))
}

func TestCalibrate(t *testing.T) {
	told := map[int64]int{}
	for _, list := range validChains() {
		for _, x := range candidates(list) {
			want, wantCode := append(slices.Clone(list), x), int64(impl.OK)
			if len(list) == 30 {
				want, wantCode = nil, impl.ErrLimit
			} else if !isChain(want) {
				want, wantCode = nil, impl.ErrState
			}
			got, code := impl.Calibrate(list, x)
			sameChain(t, []any{list, x}, got, code, want, wantCode)
			told[code]++
		}
	}
	enough(t, told, 100, impl.OK, impl.ErrState, impl.ErrLimit)
	for _, list := range invalidChains() {
		for _, x := range []Standard{{}, steady("ell", -1, between(0, 0)), steady("ell", 0, between(0, 0))} {
			got, code := impl.Calibrate(list, x)
			sameChain(t, []any{list, x}, got, code, nil, impl.ErrInvalid)
		}
	}
	for _, bad := range badStandards() {
		x := standard("ell", 2, between(0, 0), whole(0), 60, 5)
		bad(&x)
		got, code := impl.Calibrate(exampleChain(), x)
		sameChain(t, x, got, code, nil, impl.ErrState)
		got, code = impl.Calibrate(firstOnes(30), x)
		sameChain(t, x, got, code, nil, impl.ErrLimit)
	}
}

func TestCalibrateByHand(t *testing.T) {
	ell := func(from, day int64) Standard { return standard("ell", from, between(0, 0), whole(0), day, 5) }
	for _, c := range []struct {
		what string
		list []Standard
		x    Standard
		want int64
	}{
		{"the last good day", exampleChain(), ell(2, 90), impl.OK}, {"the day after", exampleChain(), ell(2, 91), impl.ErrState}, {"the day it was made", exampleChain(), ell(2, 60), impl.OK}, {"the day ahead", exampleChain(), ell(2, 59), impl.ErrState},
		{"a first one", exampleChain(), ell(-1, 0), impl.OK}, {"none", exampleChain(), ell(-2, 60), impl.ErrState}, {"its own index", exampleChain(), ell(3, 60), impl.ErrState}, {"a later index", exampleChain(), ell(4, 60), impl.ErrState},
		{"the empty chain", nil, ell(-1, 5), impl.OK}, {"itself in the empty chain", nil, ell(0, 5), impl.ErrState}, {"the 30th", firstOnes(29), ell(-1, 5), impl.OK}, {"the 31st", firstOnes(30), ell(-1, 5), impl.ErrLimit}, {"a bad 31st", firstOnes(30), ell(-5, -5), impl.ErrLimit},
		{"a known name", exampleChain(), standard("bar", -1, between(0, 0), whole(0), 0, 0), impl.ErrState},
	} {
		want := append(slices.Clone(c.list), c.x)
		if c.want != impl.OK {
			want = nil
		}
		got, code := impl.Calibrate(c.list, c.x)
		sameChain(t, c.what, got, code, want, c.want)
	}
}

func expectRenew(list []Standard, i, from int64, value Span, day int64) ([]Standard, int64) {
	if code := askCode(list, day, i); code != impl.OK {
		return nil, code
	}
	renewed := changed(list, int(i), func(s *Standard) { s.From, s.Value, s.Made = from, value, day })
	if !isChain(renewed) {
		return nil, impl.ErrState
	}
	return renewed, impl.OK
}

func TestRenewStandard(t *testing.T) {
	random := rand.New(rand.NewSource(5555))
	told := map[int64]int{}
	for _, list := range validChains() {
		indices, days := indicesOf(list), daysOf(list)
		for range 200 {
			i, from, day := indices[random.Intn(len(indices))], indices[random.Intn(len(indices))], days[random.Intn(len(days))]
			if random.Intn(2) == 0 && len(list) > 0 {
				i = random.Int63n(int64(len(list)))
				from = random.Int63n(i+1) - 1
			}
			want, wantCode := expectRenew(list, i, from, between(-1, 4), day)
			got, code := impl.RenewStandard(list, i, from, between(-1, 4), day)
			sameChain(t, []any{list, i, from, day}, got, code, want, wantCode)
			told[code]++
			got, code = impl.RenewStandard(list, i, from, between(1, 0), day)
			sameChain(t, []any{list, i, from, day}, got, code, nil, impl.ErrInvalid)
		}
	}
	enough(t, told, 500, impl.OK, impl.ErrRange, impl.ErrState)
	checkInvalidChains(t, isEmpty[Standard], func(list []Standard, i, k, day int64) ([]Standard, int64) {
		return impl.RenewStandard(list, i, k, between(0, 1), day)
	})
	for _, s := range invalidSpans() {
		for _, i := range []int64{1, -1, 3, math.MinInt64} {
			got, code := impl.RenewStandard(exampleChain(), i, 0, s, 60*i)
			sameChain(t, s, got, code, nil, impl.ErrInvalid)
		}
	}
}

func TestRenewStandardByHand(t *testing.T) {
	for _, c := range []struct {
		what         string
		i, from, day int64
		want         int64
	}{
		{"anew", 1, 0, 20, impl.OK}, {"on the day of the next one", 1, 0, 60, impl.OK}, {"behind the next one", 1, 0, 61, impl.ErrState}, {"the next one on its last day", 1, 0, 0, impl.OK}, {"as a first one", 1, -1, 20, impl.OK},
		{"by itself", 1, 1, 20, impl.ErrState}, {"by a later one", 1, 2, 60, impl.ErrState}, {"by none", 1, 3, 60, impl.ErrState}, {"by -2", 1, -2, 60, impl.ErrState}, {"by the least", 1, math.MinInt64, 60, impl.ErrState}, {"by the greatest", 1, math.MaxInt64, 60, impl.ErrState},
		{"by another one", 2, 0, 200, impl.OK}, {"by another one on its last day", 2, 0, 1000, impl.OK}, {"by another one too late", 2, 0, 1001, impl.ErrState}, {"on the last day", 2, 1, 110, impl.OK}, {"too late", 2, 1, 111, impl.ErrState}, {"on the first day", 2, 1, 10, impl.OK}, {"too early", 2, 1, 9, impl.ErrState},
		{"the first one", 0, -1, 10, impl.OK}, {"the first one too late", 0, -1, 11, impl.ErrState}, {"the first one by itself", 0, 0, 10, impl.ErrState}, {"the first one by its user", 0, 1, 10, impl.ErrState},
		{"the day MaxDay", 2, -1, impl.MaxDay, impl.OK}, {"a day more", 2, -1, impl.MaxDay + 1, impl.ErrRange}, {"the day 0", 2, -1, 0, impl.OK}, {"the day -1", 2, -1, -1, impl.ErrRange}, {"the index -1", -1, -1, 0, impl.ErrRange}, {"the index 3", 3, -1, 0, impl.ErrRange}, {"the index 3 from none", 3, 7, 0, impl.ErrRange}, {"the day -1 from none", 1, 7, -1, impl.ErrRange},
	} {
		var want []Standard
		if c.want == impl.OK {
			want = changed(exampleChain(), int(c.i), func(s *Standard) { s.From, s.Value, s.Made = c.from, span(frac(1, 2), whole(1)), c.day })
		}
		got, code := impl.RenewStandard(exampleChain(), c.i, c.from, span(frac(1, 2), whole(1)), c.day)
		sameChain(t, c.what, got, code, want, c.want)
	}
	// The bar that is made on the day 0 is good on the day 60 if it is good for 60 days, and not for 59.
	for good, want := range map[int64]int64{59: impl.ErrState, 60: impl.OK, 61: impl.OK} {
		list := changed(exampleChain(), 1, func(s *Standard) { s.Good = good })
		_, code := impl.RenewStandard(list, 1, 0, between(0, 0), 0)
		same(t, good, true, code, true, want)
	}
}

func TestNarrowBy(t *testing.T) {
	seen := []Span{between(0, 0), between(-1, 1), between(0, 7), between(least, most), between(3, 3), span(frac(1, 2), frac(7, 3)), between(most, most), between(1000, 2000), span(frac(-9, 10), frac(-1, most))}
	told := map[int64]int{}
	n := 0
	onDays(func(list []Standard, i, day int64) {
		n++
		by := seen[n%len(seen)]
		want, wantCode := expectSpanOn(list, i, day)
		if wantCode == impl.OK {
			if want, wantCode = expectMeetSpans(want, by); wantCode != impl.OK {
				wantCode = impl.ErrProof
			}
		}
		got, code := impl.NarrowBy(list, i, day, by)
		same(t, []any{list, i, day, by}, got, code, want, wantCode)
		told[code]++
		got, code = impl.NarrowBy(list, i, day, span(by.High, frac(2, 4)))
		same(t, []any{list, i, day}, got, code, Span{}, impl.ErrInvalid)
	})
	enough(t, told, 100, impl.OK, impl.ErrRange, impl.ErrState, impl.ErrLimit, impl.ErrProof)
	checkInvalidChains(t, isZero[Span], func(list []Standard, i, k, day int64) (Span, int64) {
		return impl.NarrowBy(list, i, day, between(0, k))
	})
	for _, s := range invalidSpans() {
		for _, day := range []int64{-1, 5, 10} {
			got, code := impl.NarrowBy(exampleChain(), 1, day, s)
			same(t, s, got, code, Span{}, impl.ErrInvalid)
		}
	}
}

func TestNarrowByByHand(t *testing.T) {
	for _, c := range []struct {
		i, day int64
		seen   Span
		want   Span
		code   int64
	}{
		{1, 10, span(whole(1000), frac(2003, 2)), span(whole(1001), frac(2003, 2)), impl.OK}, {1, 10, between(0, 2000), between(1001, 1002), impl.OK}, {1, 10, between(0, 1001), between(1001, 1001), impl.OK}, {1, 10, between(1002, 1005), between(1002, 1002), impl.OK}, {1, 60, between(0, 1001), span(frac(2001, 2), whole(1001)), impl.OK},
		{1, 10, between(0, 1000), Span{}, impl.ErrProof}, {1, 10, between(1003, 1003), Span{}, impl.ErrProof}, {1, 10, span(frac(100200001, 100000), whole(2000)), Span{}, impl.ErrProof}, {1, 110, between(1003, 1003), between(1003, 1003), impl.OK}, {0, 5, between(1000, 1000), between(1000, 1000), impl.OK}, {0, 5, between(1001, 1001), Span{}, impl.ErrProof},
		{1, 9, between(0, 0), Span{}, impl.ErrState}, {1, 111, between(0, 0), Span{}, impl.ErrState}, {3, 10, between(0, 0), Span{}, impl.ErrRange}, {1, -1, between(0, 0), Span{}, impl.ErrRange}, {1, impl.MaxDay + 1, between(0, 0), Span{}, impl.ErrRange}, {-1, 10, between(0, 0), Span{}, impl.ErrRange},
	} {
		got, code := impl.NarrowBy(exampleChain(), c.i, c.day, c.seen)
		same(t, c, got, code, c.want, c.code)
	}
}
