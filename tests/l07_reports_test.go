package tests

import (
	"math"
	"math/big"
	"math/rand"
	"slices"
	"testing"

	"loop.example/g01254/impl"
)

// desk knows what is accepted on a bench.
type desk struct {
	b    Bench
	kept map[Shot]Report
}

func deskOf(b Bench) desk { return desk{b, map[Shot]Report{}} }

// accepts reports whether a report is the one that is expected for its shot.
func (d desk) accepts(r Report) bool {
	want, isKept := d.kept[r.Shot]
	if !isKept {
		want, _ = expectReport(d.b, r.Shot) // without one it is the zero value
		d.kept[r.Shot] = want
	}
	return r == want && want != Report{}
}

// firstWrong returns the index of the first report that is not accepted, or -1.
func (d desk) firstWrong(list []Report) int64 {
	return int64(slices.IndexFunc(list, func(r Report) bool { return !d.accepts(r) }))
}

// code returns the first error of a list of reports and of things.
func (d desk) code(list []Report, things ...int64) int64 {
	isMissing := func(i int64) bool { return i < 0 || i >= int64(len(d.b.Things)) }
	switch {
	case !isBench(d.b):
		return impl.ErrInvalid
	case len(list) > 40 || slices.ContainsFunc(things, isMissing):
		return impl.ErrRange
	case d.firstWrong(list) >= 0:
		return impl.ErrProof
	}
	return impl.OK
}

// takenOn returns reports that are accepted on a bench, on some things more often than on others.
func takenOn(random *rand.Rand, b Bench, n int) []Report {
	var list []Report
	for range 8 * n {
		if len(b.Things) == 0 || len(list) == n {
			break
		}
		i := random.Intn(len(b.Things))
		warm, starts := warmths()[random.Intn(8)], startsOn(b, b.Things[i].Length)
		if r, code := expectReport(b, shot(int64(i), warm, starts[random.Intn(len(starts))])); code == impl.OK {
			list = append(list, r)
		}
	}
	return list
}

// parts returns where the fractions of a report are.
func parts(r *Report) []*Frac {
	return []*Frac{&r.Shot.Warm, &r.Shot.Start, &r.First, &r.Second, &r.Length, &r.Open.Low, &r.Open.High}
}

// changedReports returns reports that differ from a given one in one part, which is valid or not.
func changedReports(r Report) []Report {
	var list []Report
	for _, i := range []int64{-1, 0, 1, 2, 3, 9, 10, math.MaxInt64, math.MinInt64} {
		if i != r.Shot.Thing {
			other := r
			other.Shot.Thing = i
			list = append(list, other)
		}
	}
	for k := range parts(&r) {
		old := *parts(&r)[k]
		more, _ := toldRat(new(big.Rat).Add(rat(old), big.NewRat(1, 10)))
		for _, a := range append(invalidFracs(), more, frac(-old.P, old.Q), frac(2*old.P, 2*old.Q), frac(-old.P, -old.Q), frac(old.P+old.Q, old.Q), frac(old.P*(most+7), old.Q*(most+7)), whole(most), whole(7)) {
			if a != old {
				other := r
				*parts(&other)[k] = a
				list = append(list, other)
			}
		}
	}
	return list
}

func TestCheckReport(t *testing.T) {
	random := rand.New(rand.NewSource(701))
	accepted, wrong := 0, 0
	for _, b := range validBenches() {
		d := deskOf(b)
		for _, r := range takenOn(random, b, 2) {
			for _, x := range append(changedReports(r), r, Report{}, Report{Shot: r.Shot}) {
				want := d.accepts(x)
				got, code := impl.CheckReport(b, x)
				same(t, []any{b, x}, got, code, want, impl.OK)
				if want {
					accepted++
				} else {
					wrong++
				}
			}
		}
	}
	if accepted < 100 || wrong < 5000 {
		t.Errorf("%d were accepted, and %d not", accepted, wrong)
	}
	for _, b := range invalidBenches() {
		for _, r := range []Report{{}, exampleReport(), {Shot: shot(-1, whole(0), whole(2))}} {
			got, code := impl.CheckReport(b, r)
			same(t, []any{b, r}, got, code, false, impl.ErrInvalid)
		}
	}
}

func TestCheckReportByHand(t *testing.T) {
	good := exampleReport()
	taken, code := impl.TakeReport(exampleBench(), exampleShot())
	same(t, "the example", taken, code, good, impl.OK)
	for _, c := range []struct {
		what   string
		change func(r *Report)
		want   bool
	}{
		{"nothing", func(r *Report) {}, true}, {"the first reading", func(r *Report) { r.First = whole(3) }, false}, {"the second reading", func(r *Report) { r.Second = frac(29, 5) }, false}, {"the length", func(r *Report) { r.Length = frac(19, 5) }, false}, {"the low end", func(r *Report) { r.Open.Low = frac(7, 2) }, false}, {"the high end", func(r *Report) { r.Open.High = frac(37, 10) }, false},
		{"the warmth, which nothing feels", func(r *Report) { r.Shot.Warm = whole(50) }, true}, {"too great a warmth", func(r *Report) { r.Shot.Warm = whole(101) }, false}, {"the start, which is read alike", func(r *Report) { r.Shot.Start = frac(201, 100) }, true}, {"the start", func(r *Report) { r.Shot.Start = frac(21, 10) }, false}, {"a start off the scale", func(r *Report) { r.Shot.Start = whole(-1) }, false}, {"a start that makes the end too great", func(r *Report) { r.Shot.Start = whole(most) }, false}, {"the thing", func(r *Report) { r.Shot.Thing = 1 }, false},
		{"the least terms of a reading", func(r *Report) { r.First = frac(4, 2) }, false}, {"the least terms of the length", func(r *Report) { r.Length = frac(74, 20) }, false}, {"the least terms of the warmth", func(r *Report) { r.Shot.Warm = frac(0, 2) }, false}, {"signs", func(r *Report) { r.First = frac(-2, -1) }, false}, {"everything", func(r *Report) { *r = Report{} }, false}, {"a span the other way about", func(r *Report) { r.Open.Low, r.Open.High = r.Open.High, r.Open.Low }, false},
	} {
		r := good
		c.change(&r)
		got, code := impl.CheckReport(exampleBench(), r)
		same(t, c.what, got, code, c.want, impl.OK)
	}
	// The same report is wrong on another bench, and accepted on one that differs where it does not matter.
	other := exampleBench()
	other.Vernier.Parts = 20
	got, code := impl.CheckReport(other, good)
	same(t, "another vernier", got, code, false, impl.OK)
	other = exampleBench()
	other.Things[0].Grows, other.Grows = frac(1, 1000), frac(1, 2000)
	got, code = impl.CheckReport(other, good)
	same(t, "growing", got, code, true, impl.OK)
}

// TestCheckReports has the wrong report in any place of lists of all lengths.
func TestCheckReports(t *testing.T) {
	random := rand.New(rand.NewSource(702))
	for _, b := range append(validBenches()[:8], someBench(random, 3), someBench(random, 1)) {
		taken := takenOn(random, b, 6)
		if len(taken) == 0 {
			continue
		}
		d, bad := deskOf(b), append(changedReports(taken[0]), Report{})
		for _, n := range []int{0, 1, 2, 3, 20, 39, 40, 41, 100} {
			list := slices.Repeat(taken, n/len(taken)+1)[:n]
			check := func(list []Report) {
				want, wantCode := d.firstWrong(list), int64(impl.OK)
				if len(list) > 40 {
					want, wantCode = 0, impl.ErrRange
				} else if want < 0 {
					want, wantCode = 0, impl.ErrNotFound
				}
				got, code := impl.CheckReports(b, list)
				same(t, []any{b, list}, got, code, want, wantCode)
			}
			check(list)
			for _, i := range []int{0, n / 2, n - 1} {
				if i >= 0 && i < n {
					wrong := slices.Clone(list)
					wrong[i] = bad[random.Intn(len(bad))]
					check(wrong)
					wrong[n-1] = bad[random.Intn(len(bad))]
					check(wrong)
				}
			}
		}
	}
}

func TestCheckReportsByHand(t *testing.T) {
	b, good := exampleBench(), exampleReport()
	wrong := good
	wrong.Length = whole(4)
	with := func(n int, places ...int) []Report {
		list := repeated(good, n)
		for _, i := range places {
			list[i] = wrong
		}
		return list
	}
	for _, c := range []struct {
		list []Report
		want int64
		code int64
	}{
		{nil, 0, impl.ErrNotFound}, {[]Report{}, 0, impl.ErrNotFound}, {with(1), 0, impl.ErrNotFound}, {with(40), 0, impl.ErrNotFound}, {with(41), 0, impl.ErrRange}, {with(41, 0), 0, impl.ErrRange}, {with(1000, 3), 0, impl.ErrRange},
		{with(1, 0), 0, impl.OK}, {with(40, 0), 0, impl.OK}, {with(40, 20), 20, impl.OK}, {with(40, 39), 39, impl.OK}, {with(40, 0, 39), 0, impl.OK}, {with(40, 20, 21, 39), 20, impl.OK}, {with(5, 0, 1, 2, 3, 4), 0, impl.OK}, {append(with(2), Report{}), 2, impl.OK}, {append(with(39), Report{}), 39, impl.OK},
	} {
		got, code := impl.CheckReports(b, c.list)
		same(t, c.list, got, code, c.want, c.code)
	}
	for _, b := range invalidBenches() {
		for _, list := range [][]Report{nil, with(1), with(1, 0), with(41)} {
			got, code := impl.CheckReports(b, list)
			same(t, b, got, code, 0, impl.ErrInvalid)
		}
	}
}

// met is what MeetReports finds.
type met struct {
	both  Span
	count int64
}

func meetReports(b Bench, list []Report, i int64) (met, int64) {
	both, count, code := impl.MeetReports(b, list, i)
	return met{both, count}, code
}

// on returns the reports on a thing.
func on(list []Report, i int64) []Report {
	return slices.DeleteFunc(slices.Clone(list), func(r Report) bool { return r.Shot.Thing != i })
}

// expectMet does without ErrState: spans of reports that are accepted always meet, for the length is in all of them.
func (d desk) expectMet(list []Report, i int64) (met, int64) {
	if code := d.code(list, i); code != impl.OK {
		return met{}, code
	}
	reports := on(list, i)
	if len(reports) == 0 {
		return met{}, impl.ErrNotFound
	}
	low, high := rat(reports[0].Open.Low), rat(reports[0].Open.High)
	for _, r := range reports {
		low, high = highOf(low, rat(r.Open.Low)), lowOf(high, rat(r.Open.High))
	}
	both, _ := toldSpan(low, high)
	return met{both, int64(len(reports))}, impl.OK
}

func (d desk) expectMean(list []Report, i int64) (Frac, int64) {
	if code := d.code(list, i); code != impl.OK {
		return Frac{}, code
	}
	var lengths []Frac
	for _, r := range on(list, i) {
		lengths = append(lengths, r.Length)
	}
	if len(lengths) == 0 {
		return Frac{}, impl.ErrNotFound
	}
	return expectMean(lengths)
}

func (d desk) expectLonger(list []Report, i, k int64) (bool, int64) {
	if code := d.code(list, i, k); code != impl.OK {
		return false, code
	}
	one, oneCode := d.expectMet(list, i)
	two, twoCode := d.expectMet(list, k)
	if oneCode != impl.OK || twoCode != impl.OK {
		return false, impl.ErrNotFound
	}
	return rat(one.both.Low).Cmp(rat(two.both.High)) > 0, impl.OK
}

// TestListsOfReports compares what several reports say together with what is expected.
func TestListsOfReports(t *testing.T) {
	random := rand.New(rand.NewSource(703))
	metTold, meanTold, longerTold, longer := map[int64]int{}, map[int64]int{}, map[int64]int{}, 0
	for n, b := range validBenches() {
		d, taken := deskOf(b), takenOn(random, b, 8)
		for _, size := range []int{0, 1, 2, 3, 5, 8, 8, 40, 41} {
			list := slices.Repeat(taken, 41)[:min(size, 41*len(taken))]
			if n%4 == 0 && len(list) > 0 {
				list = slices.Clone(list)
				list[random.Intn(len(list))].Length.P++
			}
			for i := int64(-1); i <= int64(len(b.Things)); i++ {
				want, wantCode := d.expectMet(list, i)
				got, code := meetReports(b, list, i)
				same(t, []any{"meet", b, list, i}, got, code, want, wantCode)
				metTold[code]++
				mean, meanCode := d.expectMean(list, i)
				gotMean, code := impl.MeanReport(b, list, i)
				same(t, []any{"mean", b, list, i}, gotMean, code, mean, meanCode)
				meanTold[code]++
				for k := int64(-1); k <= int64(len(b.Things)); k++ {
					is, isCode := d.expectLonger(list, i, k)
					got, code := impl.IsLonger(b, list, i, k)
					same(t, []any{"longer", b, list, i, k}, got, code, is, isCode)
					longerTold[code]++
					if is {
						longer++
					}
				}
			}
		}
	}
	enough(t, metTold, 100, impl.OK, impl.ErrRange, impl.ErrProof, impl.ErrNotFound)
	enough(t, meanTold, 100, impl.OK, impl.ErrRange, impl.ErrProof, impl.ErrNotFound)
	enough(t, longerTold, 100, impl.OK, impl.ErrRange, impl.ErrProof, impl.ErrNotFound)
	if longer < 100 {
		t.Errorf("only %d are longer", longer)
	}
}

// halfBench has a vernier that rounds a quarter of the unit down, and three quarters up, so that spans end exactly at the length.
func halfBench() Bench {
	return bench(even(whole(1), 20), Vernier{Parts: 2}, whole(0), thing("a", frac(5, 2), whole(0)), thing("b", frac(5, 2), whole(0)), thing("c", whole(2), whole(0)), thing("d", whole(1), whole(0)), thing("e", whole(9), whole(0)))
}

// halfReport takes a report with the length that is told, and half a unit more and less.
func halfReport(t *testing.T, i int64, start, reading Frac) Report {
	t.Helper()
	r, code := impl.TakeReport(halfBench(), shot(i, whole(0), start))
	same(t, []any{i, start}, r.Length, code, reading, impl.OK)
	half := big.NewRat(1, 2)
	want, _ := toldSpan(new(big.Rat).Sub(rat(reading), half), new(big.Rat).Add(rat(reading), half))
	same(t, []any{i, start}, r.Open, code, want, impl.OK)
	return r
}

func TestMeetAndMeanReportByHand(t *testing.T) {
	b := halfBench()
	up, down, exact := halfReport(t, 0, frac(1, 4), whole(3)), halfReport(t, 0, frac(3, 4), whole(2)), halfReport(t, 0, whole(0), frac(5, 2))
	other, wrong := halfReport(t, 2, whole(0), whole(2)), up
	wrong.Second = whole(7)
	for _, c := range []struct {
		what string
		list []Report
		i    int64
		want met
		mean Frac
		code int64
	}{
		{"one", []Report{up}, 0, met{span(frac(5, 2), frac(7, 2)), 1}, whole(3), impl.OK}, {"one of two things", []Report{other, up}, 0, met{span(frac(5, 2), frac(7, 2)), 1}, whole(3), impl.OK}, {"the other thing", []Report{other, up}, 2, met{span(frac(3, 2), frac(5, 2)), 1}, whole(2), impl.OK},
		{"spans that touch", []Report{up, down}, 0, met{span(frac(5, 2), frac(5, 2)), 2}, frac(5, 2), impl.OK}, {"the other way about", []Report{down, other, up}, 0, met{span(frac(5, 2), frac(5, 2)), 2}, frac(5, 2), impl.OK}, {"three", []Report{up, exact, down}, 0, met{span(frac(5, 2), frac(5, 2)), 3}, frac(5, 2), impl.OK}, {"two", []Report{up, exact}, 0, met{span(frac(5, 2), whole(3)), 2}, frac(11, 4), impl.OK}, {"two others", []Report{exact, down}, 0, met{span(whole(2), frac(5, 2)), 2}, frac(9, 4), impl.OK}, {"the same one twice", []Report{up, up, down}, 0, met{span(frac(5, 2), frac(5, 2)), 3}, frac(8, 3), impl.OK}, {"forty", repeated(exact, 40), 0, met{between(2, 3), 40}, frac(5, 2), impl.OK},
		{"none", nil, 0, met{}, Frac{}, impl.ErrNotFound}, {"none", []Report{}, 4, met{}, Frac{}, impl.ErrNotFound}, {"none on it", []Report{up, down}, 1, met{}, Frac{}, impl.ErrNotFound}, {"none on it, and a wrong one", []Report{up, wrong}, 1, met{}, Frac{}, impl.ErrProof}, {"a wrong one", []Report{up, wrong}, 0, met{}, Frac{}, impl.ErrProof}, {"a wrong one on another thing", []Report{up, wrong, other}, 2, met{}, Frac{}, impl.ErrProof}, {"a zero one", []Report{up, {}}, 0, met{}, Frac{}, impl.ErrProof},
		{"no thing", []Report{up}, -1, met{}, Frac{}, impl.ErrRange}, {"no thing", []Report{up}, 5, met{}, Frac{}, impl.ErrRange}, {"no thing, and a wrong one", []Report{wrong}, 5, met{}, Frac{}, impl.ErrRange}, {"no thing", nil, math.MinInt64, met{}, Frac{}, impl.ErrRange}, {"no thing", nil, math.MaxInt64, met{}, Frac{}, impl.ErrRange}, {"too many", repeated(exact, 41), 0, met{}, Frac{}, impl.ErrRange}, {"too many wrong ones", repeated(wrong, 41), 0, met{}, Frac{}, impl.ErrRange}, {"too many on no thing", repeated(exact, 41), 1, met{}, Frac{}, impl.ErrRange},
	} {
		got, code := meetReports(b, c.list, c.i)
		same(t, "meet "+c.what, got, code, c.want, c.code)
		mean, code := impl.MeanReport(b, c.list, c.i)
		same(t, "mean "+c.what, mean, code, c.mean, c.code)
	}
	for _, b := range invalidBenches() {
		for _, list := range [][]Report{nil, {up}, {wrong}, repeated(up, 41)} {
			for _, i := range []int64{0, -1, 11} {
				got, code := meetReports(b, list, i)
				same(t, b, got, code, met{}, impl.ErrInvalid)
				mean, code := impl.MeanReport(b, list, i)
				same(t, b, mean, code, Frac{}, impl.ErrInvalid)
			}
		}
	}
}

// TestMeanReportOfLengthsThatDoNotAdd has three lengths of which only two have a valid sum, and spans that meet nevertheless.
func TestMeanReportOfLengthsThatDoNotAdd(t *testing.T) {
	b := bench(even(whole(1), 20), Vernier{Parts: 10}, frac(1, 2000), thing("rod", whole(3), frac(1, 1000)))
	var list []Report
	for _, q := range []int64{7, 11, 13} {
		r, code := impl.TakeReport(b, shot(0, frac(1, q), whole(2)))
		same(t, q, r.Second, code, whole(5), impl.OK)
		list = append(list, r)
	}
	two := list[:2]
	mean, code := impl.MeanReport(b, two, 0)
	wantMean, _ := deskOf(b).expectMean(two, 0)
	same(t, "two", mean, code, wantMean, impl.OK)
	mean, code = impl.MeanReport(b, list, 0)
	same(t, "three", mean, code, Frac{}, impl.ErrLimit)
	got, code := meetReports(b, list, 0)
	same(t, "three", got.count, code, 3, impl.OK)
}

func TestIsLongerByHand(t *testing.T) {
	b := halfBench()
	up, down, exact := halfReport(t, 0, frac(1, 4), whole(3)), halfReport(t, 0, frac(3, 4), whole(2)), halfReport(t, 0, whole(0), frac(5, 2))
	low, whole2, whole1 := halfReport(t, 1, frac(3, 4), whole(2)), halfReport(t, 2, whole(0), whole(2)), halfReport(t, 3, whole(0), whole(1))
	list := []Report{up, low, whole2, whole1}
	wrong := up
	wrong.Length = whole(4)
	for _, c := range []struct {
		what string
		list []Report
		i, k int64
		want bool
		code int64
	}{
		{"longer", list, 0, 3, true, impl.OK}, {"shorter", list, 3, 0, false, impl.OK}, {"as long, and spans that touch", list, 0, 1, false, impl.OK}, {"the other way about", list, 1, 0, false, impl.OK}, {"longer, but spans that touch", list, 0, 2, false, impl.OK}, {"the other way about", list, 2, 0, false, impl.OK}, {"itself", list, 0, 0, false, impl.OK}, {"itself", []Report{up, down}, 0, 0, false, impl.OK}, {"not shown", []Report{exact, whole2}, 0, 2, false, impl.OK}, {"shown by one of several", []Report{exact, down, up, whole1}, 0, 3, true, impl.OK}, {"spans that touch", []Report{exact, whole1, halfReport(t, 3, frac(1, 4), whole(1))}, 0, 3, true, impl.OK}, {"spans that touch", []Report{down, whole1}, 0, 3, false, impl.OK},
		{"none on the one", list, 4, 0, false, impl.ErrNotFound}, {"none on the other one", list, 0, 4, false, impl.ErrNotFound}, {"none on itself", list, 4, 4, false, impl.ErrNotFound}, {"none", nil, 0, 1, false, impl.ErrNotFound},
		{"no thing", list, -1, 0, false, impl.ErrRange}, {"no other thing", list, 0, -1, false, impl.ErrRange}, {"no thing", list, 5, 0, false, impl.ErrRange}, {"no other thing", list, 0, 5, false, impl.ErrRange}, {"neither", list, 5, math.MinInt64, false, impl.ErrRange}, {"no other thing, and none on the one", list, 4, 5, false, impl.ErrRange}, {"no other thing, and a wrong one", []Report{wrong}, 0, 5, false, impl.ErrRange}, {"too many", repeated(up, 41), 0, 0, false, impl.ErrRange},
		{"a wrong one", append([]Report{wrong}, list...), 0, 3, false, impl.ErrProof}, {"a wrong one of another thing", append([]Report{wrong}, list...), 3, 2, false, impl.ErrProof}, {"a wrong one, and none", []Report{wrong}, 3, 4, false, impl.ErrProof},
	} {
		got, code := impl.IsLonger(b, c.list, c.i, c.k)
		same(t, c.what, got, code, c.want, c.code)
	}
	for _, b := range invalidBenches() {
		for _, i := range []int64{0, -1, 11} {
			got, code := impl.IsLonger(b, list, 0, i)
			same(t, b, got, code, false, impl.ErrInvalid)
			got, code = impl.IsLonger(b, repeated(wrong, 41), i, 0)
			same(t, b, got, code, false, impl.ErrInvalid)
		}
	}
}

func TestAgainstStandard(t *testing.T) {
	b, told := warmBench(), map[int64]int{}
	taken := takenOn(rand.New(rand.NewSource(704)), b, 10)
	n := 0
	onDays(func(list []Standard, i, day int64) {
		if n++; n%7 != 0 {
			return
		}
		r := taken[n%len(taken)]
		wrong := r
		wrong.First = whole(-3)
		want, wantCode := expectSpanOn(list, i, day)
		if wantCode == impl.OK {
			var by reckoner
			want, wantCode = by.toldEnds(by.difference(ends{rat(r.Open.Low), rat(r.Open.High)}, ends{rat(want.Low), rat(want.High)}))
		}
		got, code := impl.AgainstStandard(b, r, list, i, day)
		same(t, []any{r, list, i, day}, got, code, want, wantCode)
		told[code]++
		got, code = impl.AgainstStandard(b, wrong, list, i, day)
		same(t, []any{wrong, list, i, day}, got, code, Span{}, impl.ErrProof)
	})
	enough(t, told, 100, impl.OK, impl.ErrRange, impl.ErrState, impl.ErrLimit)
	for _, r := range []Report{taken[0], {}} {
		checkInvalidChains(t, isZero[Span], func(list []Standard, i, k, day int64) (Span, int64) {
			return impl.AgainstStandard(b, r, list, i, day)
		})
	}
}

func TestAgainstStandardByHand(t *testing.T) {
	three := []Standard{steady("metre", -1, between(3, 3))}
	wrong, zero := exampleReport(), Report{}
	wrong.Open.High = whole(4)
	for _, c := range []struct {
		what   string
		r      Report
		chain  []Standard
		i, day int64
		want   Span
		code   int64
	}{
		{"the example", exampleReport(), three, 0, 5, span(frac(3, 5), frac(4, 5)), impl.OK}, {"a span", exampleReport(), exampleChain(), 1, 110, span(frac(-4997, 5), frac(-4981, 5)), impl.OK}, {"another day", exampleReport(), exampleChain(), 1, 10, span(frac(-4992, 5), frac(-4986, 5)), impl.OK},
		{"a wrong one", wrong, three, 0, 5, Span{}, impl.ErrProof}, {"a zero one", zero, three, 0, 5, Span{}, impl.ErrProof}, {"a wrong one, and no standard", wrong, three, 1, 5, Span{}, impl.ErrProof}, {"a wrong one on a bad day", wrong, exampleChain(), 1, 9, Span{}, impl.ErrProof}, {"a wrong one, and no day", wrong, three, 0, -1, Span{}, impl.ErrProof},
		{"no standard", exampleReport(), three, 1, 5, Span{}, impl.ErrRange}, {"no standard", exampleReport(), three, -1, 5, Span{}, impl.ErrRange}, {"no standard", exampleReport(), three, math.MinInt64, 5, Span{}, impl.ErrRange}, {"no day", exampleReport(), three, 0, -1, Span{}, impl.ErrRange}, {"no day", exampleReport(), three, 0, impl.MaxDay + 1, Span{}, impl.ErrRange}, {"no chain", exampleReport(), nil, 0, 5, Span{}, impl.ErrRange},
		{"too early", exampleReport(), exampleChain(), 1, 9, Span{}, impl.ErrState}, {"too late", exampleReport(), exampleChain(), 1, 111, Span{}, impl.ErrState}, {"the span of the standard", exampleReport(), greatChains()[0], 1, 5, Span{}, impl.ErrLimit}, {"the difference", exampleReport(), greatChains()[0], 0, 5, Span{}, impl.ErrLimit},
		{"an invalid chain", exampleReport(), append(exampleChain(), Standard{}), 0, 5, Span{}, impl.ErrInvalid}, {"an invalid chain and a wrong report", wrong, append(exampleChain(), Standard{}), 7, 5, Span{}, impl.ErrInvalid},
	} {
		got, code := impl.AgainstStandard(exampleBench(), c.r, c.chain, c.i, c.day)
		same(t, c.what, got, code, c.want, c.code)
	}
	for _, b := range invalidBenches() {
		for _, i := range []int64{0, 1} {
			for _, r := range []Report{exampleReport(), wrong} {
				got, code := impl.AgainstStandard(b, r, three, i, -1)
				same(t, b, got, code, Span{}, impl.ErrInvalid)
			}
		}
	}
}
