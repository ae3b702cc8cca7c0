package tests

import (
	"math"
	"math/big"
	"math/rand"
	"runtime"
	"slices"
	"strings"
	"sync"
	"testing"

	"loop.example/g01254/impl"
)

// TestPromise1EveryFunctionOfBenchesReturns calls every function of chapter 7 twice, with arguments of all kinds.
func TestPromise1EveryFunctionOfBenchesReturns(t *testing.T) {
	random := rand.New(rand.NewSource(1))
	benches := append(validBenches(), invalidBenches()...)
	fracs := append(validFracs(), invalidFracs()...)
	chains := append(handChains(), invalidChains()...)
	numbers := []int64{0, 1, 2, -1, 9, 10, 60, math.MaxInt64, math.MinInt64, math.MinInt64 + 1}
	shots := append(wrongShots(), exampleShot(), shot(0, whole(-100), whole(1)), shot(1, whole(100), frac(1, 2)))
	for n, b := range benches {
		x, other, i, k := shots[n%len(shots)], benches[(7*n+1)%len(benches)], numbers[n%len(numbers)], numbers[n/3%len(numbers)]
		first, second := fracs[n%len(fracs)], fracs[5*n%len(fracs)]
		r := Report{Shot: x, First: first, Second: second, Length: first, Open: span(second, first)}
		list := []Report{r, exampleReport()}
		if n%2 == 0 && isBench(b) {
			list = slices.Repeat(takenOn(random, b, 3), 14)
		}
		by := slices.Concat(fracs[n%len(fracs):min(n%len(fracs)+n%2, len(fracs))], b.Scale.Errors)[:len(b.Scale.Errors)]
		twice(t, func() any { return impl.ValidBench(b) })
		twice(t, func() any { return impl.SameBench(b, other) })
		twice(t, func() any { return impl.BenchText(b) })
		twice(t, func() any { return impl.ReportText(r) })
		twice(t, func() any { return results(impl.ReadBench(impl.BenchText(b) + " "[:n%2])) })
		twice(t, func() any { return results(impl.ReadReport(impl.ReportText(r) + " "[:n%2])) })
		twice(t, func() any { return results(impl.FoundErrors(b.Scale)) })
		twice(t, func() any { return results(impl.CorrectBench(b, by)) })
		for _, name := range append(badNames(), "a", "rod") {
			twice(t, func() any { return results(impl.FindThing(b, name)) })
		}
		for _, x := range []Shot{x, exampleShot(), shot(i, first, second)} {
			twice(t, func() any { return impl.ValidShot(b, x) })
			twice(t, func() any { return triple(impl.EndsOf(b, x)) })
			twice(t, func() any { return triple(impl.ReadEnds(b, x)) })
			twice(t, func() any { return results(impl.LengthFrom(b, x, first, second)) })
			twice(t, func() any { return results(impl.OpenSpan(b, x, first, second)) })
			twice(t, func() any { return results(impl.TakeReport(b, x)) })
		}
		twice(t, func() any { return results(impl.StretchOf(first, second)) })
		twice(t, func() any { return results(impl.CheckReport(b, r)) })
		for _, list := range [][]Report{nil, list, list[:len(list)/2]} {
			twice(t, func() any { return results(impl.CheckReports(b, list)) })
			twice(t, func() any { return triple(impl.MeetReports(b, list, i%3)) })
			twice(t, func() any { return results(impl.MeanReport(b, list, i%3)) })
			twice(t, func() any { return results(impl.IsLonger(b, list, i, k%2)) })
			twice(t, func() any { return results(impl.IsLonger(b, list, 0, k)) })
		}
		twice(t, func() any {
			return results(impl.AgainstStandard(b, append(list, r)[0], chains[n%len(chains)], i, k))
		})
	}
}

// withRoom returns a bench whose lists are the beginnings of longer ones, and a function that tells whether these are as they were.
func withRoom(b Bench) (Bench, func() bool) {
	errors, longErrors, oldErrors := longer(b.Scale.Errors, frac(-7, 3), whole(99), frac(0, 0))
	list, longThings, oldThings := longer(b.Things, thing("spare", frac(0, 0), whole(-7)), Thing{})
	b.Scale.Errors, b.Things = errors, list
	return b, func() bool {
		return slices.Equal(longErrors, oldErrors) && slices.Equal(longThings, oldThings)
	}
}

func TestPromise1NoBenchIsModified(t *testing.T) {
	random := rand.New(rand.NewSource(11))
	for _, old := range append(validBenches(), invalidBenches()...) {
		b, isOld := withRoom(old)
		taken := []Report{{}, exampleReport()}
		if isBench(b) {
			taken = takenOn(random, b, 3)
		}
		list, longList, oldList := longer(taken, Report{}, exampleReport())
		by, longBy, oldBy := longer(b.Scale.Errors, frac(5, 7), Frac{})
		chain, longChain := withMore(exampleChain())
		oldChain := slices.Clone(longChain)
		impl.ValidBench(b)
		impl.SameBench(b, b)
		impl.FindThing(b, "rod")
		impl.BenchText(b)
		impl.FoundErrors(b.Scale)
		impl.CorrectBench(b, by)
		impl.CheckReports(b, list)
		for i := range int64(2) {
			x := shot(i, whole(20), whole(2))
			impl.ValidShot(b, x)
			impl.EndsOf(b, x)
			impl.ReadEnds(b, x)
			impl.LengthFrom(b, x, whole(1), whole(2))
			impl.OpenSpan(b, x, whole(1), whole(2))
			impl.TakeReport(b, x)
			impl.MeetReports(b, list, i)
			impl.MeanReport(b, list, i)
			impl.IsLonger(b, list, i, 0)
		}
		for _, r := range taken {
			impl.CheckReport(b, r)
			impl.AgainstStandard(b, r, chain, 1, 60)
		}
		if !isOld() || !slices.Equal(longList, oldList) || !slices.Equal(longBy, oldBy) || !slices.Equal(longChain, oldChain) {
			t.Errorf("%+v has become %+v, with %v, %v and %v", old, b, longList, longBy, longChain)
		}
	}
}

// TestPromise1BenchesShareNoMemory writes into all that results have room for.
func TestPromise1BenchesShareNoMemory(t *testing.T) {
	b, isOld := withRoom(bench(scale(whole(1), frac(1, 8), frac(-1, 8), whole(0)), Vernier{Parts: 2}, whole(0), things(3)...))
	by := repeated(frac(1, 8), 3)
	for i, build := range []func() (Bench, int64){
		func() (Bench, int64) { return impl.CorrectBench(b, by) },
		func() (Bench, int64) { return impl.ReadBench(impl.BenchText(b)) },
	} {
		one, _ := build()
		two, code := build()
		want := bench(scale(two.Scale.Unit, slices.Clone(two.Scale.Errors)...), two.Vernier, two.Grows, slices.Clone(two.Things)...)
		spoil(one.Scale.Errors, whole(77))
		spoil(one.Things, thing("spoiled", whole(-1), whole(-1)))
		sameBench(t, i, two, code, want, impl.OK)
	}
	one, _ := impl.FoundErrors(b.Scale)
	two, code := impl.FoundErrors(b.Scale)
	spoil(one, whole(77))
	sameList(t, "found", two, code, []Frac{frac(1, 8), frac(-1, 8), whole(0)}, impl.OK)
	if !isOld() || !slices.Equal(by, repeated(frac(1, 8), 3)) {
		t.Errorf("the arguments have become %+v and %v", b, by)
	}
}

func TestPromise1NoThingsAreEmpty(t *testing.T) {
	for i, list := range [][]Thing{nil, {}, make([]Thing, 0, 5)} {
		b, reports, by := withThings(list...), [][]Report{{}, make([]Report, 0, 5), nil}[i], [][]Frac{make([]Frac, 0, 5), nil, {}}[i]
		b.Things = list
		found, code := impl.FindThing(b, "a")
		same(t, "find", found, code, 0, impl.ErrNotFound)
		wrong, code := impl.CheckReports(b, reports)
		same(t, "check", wrong, code, 0, impl.ErrNotFound)
		got, code := meetReports(b, reports, 0)
		same(t, "meet", got, code, met{}, impl.ErrRange)
		mean, code := impl.MeanReport(exampleBench(), reports, 0)
		same(t, "mean", mean, code, Frac{}, impl.ErrNotFound)
		corrected, code := impl.CorrectBench(b, by)
		sameBench(t, "correct", corrected, code, Bench{}, impl.ErrRange)
		corrected, code = impl.CorrectBench(b, b.Scale.Errors)
		sameBench(t, "correct", corrected, code, withThings(), impl.OK)
		if text := impl.BenchText(b); !impl.ValidBench(b) || text != "1"+strings.Repeat(" 0", 20)+"\n10 on 0\n" {
			t.Errorf("a bench without things has the text %q", text)
		}
		read, code := impl.ReadBench(impl.BenchText(b))
		sameBench(t, "read", read, code, b, impl.OK)
	}
}

func TestPromise1VeryLongBenches(t *testing.T) {
	const elements = 1000000
	long := withThings(repeated(thing("a", whole(1), whole(0)), elements/5)...)
	if impl.ValidBench(long) || !impl.SameBench(long, withThings(slices.Clone(long.Things)...)) || impl.SameBench(long, withThings(long.Things[1:]...)) || impl.BenchText(long) != "" || impl.ValidShot(long, exampleShot()) {
		t.Error("a very long bench is not told as it is")
	}
	name := strings.Repeat("a", elements)
	found, code := impl.FindThing(exampleBench(), name)
	same(t, "find", found, code, 0, impl.ErrNotFound)
	if impl.ValidBench(withThings(thing(name, whole(1), whole(0)))) || impl.ValidBench(bench(even(whole(1), elements), Vernier{Parts: 10}, whole(0))) {
		t.Error("a very long name or scale is not valid")
	}
	list := repeated(exampleReport(), elements/17)
	wrong, code := impl.CheckReports(exampleBench(), list)
	same(t, "check", wrong, code, 0, impl.ErrRange)
	got, code := meetReports(exampleBench(), list, 0)
	same(t, "meet", got, code, met{}, impl.ErrRange)
	is, code := impl.IsLonger(long, list, 0, 0)
	same(t, "longer", is, code, false, impl.ErrInvalid)
	by := repeated(whole(0), elements)
	corrected, code := impl.CorrectBench(exampleBench(), by)
	sameBench(t, "correct", corrected, code, Bench{}, impl.ErrRange)
	by[elements-1] = Frac{}
	corrected, code = impl.CorrectBench(exampleBench(), by)
	sameBench(t, "correct", corrected, code, Bench{}, impl.ErrInvalid)
	against, code := impl.AgainstStandard(exampleBench(), exampleReport(), repeated(steady("a", -1, between(0, 0)), elements/12), 0, 0)
	same(t, "against", against, code, Span{}, impl.ErrInvalid)
}

// TestPromise1ReportsAreTakenAtTheSameTime asks from several sides, and then waits until nothing is taken any more.
func TestPromise1ReportsAreTakenAtTheSameTime(t *testing.T) {
	before := runtime.NumGoroutine()
	b, good := exampleBench(), exampleReport()
	wrong := good
	wrong.First = whole(3)
	var all sync.WaitGroup
	for range 8 {
		all.Go(func() {
			for n := range 40 {
				list := repeated(good, 40)
				list[n], list[39] = wrong, Report{}
				at, code := impl.CheckReports(b, list)
				same(t, n, at, code, int64(min(n, 39)), impl.OK)
				got, code := meetReports(b, list[:n], 0)
				if want := (met{good.Open, int64(n)}); n > 0 {
					same(t, n, got, code, want, impl.OK)
				}
			}
		})
	}
	all.Wait()
	waitUntilThereAre(t, before)
}

// onTaken calls check with benches, and the reports that are taken on them.
func onTaken(check func(b Bench, r Report)) {
	take := func(b Bench, x Shot) {
		if r, code := impl.TakeReport(b, x); code == impl.OK {
			check(b, r)
		}
	}
	onShots(take)
	random := rand.New(rand.NewSource(15))
	for range 700 {
		b := someBench(random, 2)
		unit := rat(b.Scale.Unit)
		for range 6 {
			start, _ := toldRat(new(big.Rat).Mul(unit, big.NewRat(random.Int63n(500), 83)))
			take(b, shot(random.Int63n(2), whole(random.Int63n(201)-100), start))
		}
	}
}

// TestPromise15TheLengthLiesInTheSpanOfItsReport takes reports on scales without errors, with small and with the greatest ones.
func TestPromise15TheLengthLiesInTheSpanOfItsReport(t *testing.T) {
	held, warm, cold, off := 0, 0, 0, 0
	onTaken(func(b Bench, r Report) {
		o := b.Things[r.Shot.Thing]
		if !holds(r.Open, rat(o.Length)) || !holds(r.Open, rat(r.Length)) {
			t.Errorf("%+v: %+v does not hold %v", b, r, o.Length)
		}
		held++
		if c, _ := impl.StretchOf(b.Grows, r.Shot.Warm); c.P > c.Q {
			warm++
		} else if c.P < c.Q {
			cold++
		}
		if worst, _ := impl.WorstError(b.Scale); worst.P > 0 {
			off++
		}
	})
	if held < 2000 || warm < 300 || cold < 300 || off < 500 {
		t.Errorf("%d were held, %d of them warm, %d cold, and %d with errors", held, warm, cold, off)
	}
}

// TestPromise15SpansAreNoWiderThanTheyHaveToBe measures each span by what both readings can be off, and finds lengths at its ends.
func TestPromise15SpansAreNoWiderThanTheyHaveToBe(t *testing.T) {
	onTaken(func(b Bench, r Report) {
		zero, _ := impl.ReadingSpan(b.Scale, b.Vernier, whole(0))
		var by reckoner
		want := by.atZero(b, r.Shot, new(big.Rat).Mul(big.NewRat(2, 1), widthOf(zero)))
		if width := widthOf(r.Open); width.Cmp(want) != 0 {
			t.Errorf("%+v: the span of %+v is %v wide, and should be %v", b, r, width, want)
		}
	})
	b := halfBench()
	up, down := halfReport(t, 0, frac(1, 4), whole(3)), halfReport(t, 0, frac(3, 4), whole(2))
	if length := b.Things[0].Length; up.Open.Low != length || down.Open.High != length {
		t.Errorf("%v is at no end of %v and %v", length, up.Open, down.Open)
	}
}

// TestPromise16WhatIsShownToBeLongerIsLonger compares all things of a bench.
func TestPromise16WhatIsShownToBeLongerIsLonger(t *testing.T) {
	random := rand.New(rand.NewSource(16))
	shown, open := 0, 0
	for _, b := range validBenches() {
		list := takenOn(random, b, 8)
		for i := range int64(len(b.Things)) {
			for k := range int64(len(b.Things)) {
				is, code := impl.IsLonger(b, list, i, k)
				if code != impl.OK {
					continue
				}
				back, _ := impl.IsLonger(b, list, k, i)
				isTrue := rat(b.Things[i].Length).Cmp(rat(b.Things[k].Length)) > 0
				if is && (!isTrue || back || i == k) {
					t.Errorf("%+v: of %+v, %d is not longer than %d", b, list, i, k)
				}
				if is {
					shown++
				} else if isTrue {
					open++
				}
			}
		}
	}
	if shown < 40 || open < 10 {
		t.Errorf("%d were shown to be longer, and %d were not", shown, open)
	}
}

// TestPromise16WrongReportsAreTold changes reports: what is accepted then is what the changed shot says.
func TestPromise16WrongReportsAreTold(t *testing.T) {
	random := rand.New(rand.NewSource(162))
	told, good := 0, 0
	for _, b := range validBenches()[:16] {
		taken := takenOn(random, b, 3)
		for n, r := range taken {
			if is, code := impl.CheckReport(b, r); !is || code != impl.OK {
				t.Errorf("%+v: %+v is not accepted", b, r)
			}
			for _, x := range changedReports(r) {
				is, code := impl.CheckReport(b, x)
				again, takenCode := impl.TakeReport(b, x.Shot)
				if code != impl.OK || is != (takenCode == impl.OK && again == x) || is && x.Shot == r.Shot {
					t.Errorf("%+v: %+v, changed from %+v, is accepted: %t", b, x, r, is)
				}
				if is {
					good++
					continue
				}
				told++
				list := slices.Clone(taken)
				list[n] = x
				at, code := impl.CheckReports(b, list)
				_, proof := impl.MeanReport(b, list, 0)
				if at != int64(n) || code != impl.OK || proof != impl.ErrProof {
					t.Errorf("%+v: %+v is not told", b, list)
				}
			}
		}
	}
	if told < 5000 || good < 10 {
		t.Errorf("%d were told, and %d accepted", told, good)
	}
}

// TestPromise17LengthsLieInWhatIsInAllReports takes several reports on each thing: their spans always meet.
func TestPromise17LengthsLieInWhatIsInAllReports(t *testing.T) {
	random := rand.New(rand.NewSource(17))
	met, narrower := 0, 0
	for range 150 {
		b := someBench(random, 2)
		list := takenOn(random, b, 12)
		for i, o := range b.Things {
			reports := on(list, int64(i))
			both, count, code := impl.MeetReports(b, list, int64(i))
			if len(reports) == 0 {
				continue
			}
			met++
			if code != impl.OK || count != int64(len(reports)) || !holds(both, rat(o.Length)) {
				t.Errorf("%+v: %+v meet in %v, which does not hold %v: %s", b, reports, both, o.Length, impl.CodeName(code))
			}
			for _, r := range reports {
				if !holds(r.Open, rat(both.Low)) || !holds(r.Open, rat(both.High)) {
					t.Errorf("%v goes beyond %+v", both, r)
				}
				if widthOf(both).Cmp(widthOf(r.Open)) < 0 {
					narrower++
				}
			}
		}
	}
	if met < 150 || narrower < 300 {
		t.Errorf("only %d met, and %d times it was narrower", met, narrower)
	}
}

// TestPromise17ErrorsAreFoundAndTakenAway finds the errors of a scale, and takes them away: what it reads then is within half a least count.
func TestPromise17ErrorsAreFoundAndTakenAway(t *testing.T) {
	random := rand.New(rand.NewSource(172))
	narrower := 0
	for range 200 {
		s := someScale(random, 100)
		s.Errors = s.Errors[:min(len(s.Errors), 7)]
		b := bench(s, Vernier{Parts: 2, Back: random.Intn(2) == 0}, frac(1, 2000), thing("a", s.Unit, whole(0)))
		found, code := impl.FoundErrors(s)
		sameList(t, s, found, code, s.Errors, impl.OK)
		corrected, code := impl.CorrectBench(b, found)
		sameBench(t, b, corrected, code, bench(even(s.Unit, len(s.Errors)), b.Vernier, b.Grows, b.Things...), impl.OK)
		x := shot(0, whole(random.Int63n(41)-20), s.Unit)
		one, oneCode := impl.TakeReport(b, x)
		two, twoCode := impl.TakeReport(corrected, x)
		if oneCode != impl.OK || twoCode != impl.OK {
			continue
		}
		if !holds(one.Open, rat(s.Unit)) || !holds(two.Open, rat(s.Unit)) || widthOf(two.Open).Cmp(widthOf(one.Open)) > 0 {
			t.Errorf("%+v: %v is in %v, and on the corrected scale in %v", s, s.Unit, one.Open, two.Open)
		}
		if widthOf(two.Open).Cmp(widthOf(one.Open)) < 0 {
			narrower++
		}
	}
	if narrower < 50 {
		t.Errorf("only %d are narrower", narrower)
	}
}

// TestPromise17LengthsAgainstStandards makes values of standards that their chain allows, and compares them with the length of a thing.
func TestPromise17LengthsAgainstStandards(t *testing.T) {
	random := rand.New(rand.NewSource(173))
	compared := 0
	for _, list := range handChains() {
		for i := range int64(len(list)) {
			b := someBench(random, 1)
			taken := takenOn(random, b, 1)
			day := list[i].Made + random.Int63n(list[i].Good+1)
			if len(taken) == 0 {
				continue
			}
			against, code := impl.AgainstStandard(b, taken[0], list, i, day)
			if code != impl.OK {
				continue
			}
			compared++
			if more := new(big.Rat).Sub(rat(b.Things[0].Length), someTruth(random, list).valueOn(i, day)); !holds(against, more) {
				t.Errorf("%+v: %v is longer than %d of %+v by %v, which is not in %v", b, b.Things[0], i, list, more, against)
			}
		}
	}
	if compared < 100 {
		t.Errorf("only %d were compared", compared)
	}
}

// TestExampleOfBenches is that of the document.
func TestExampleOfBenches(t *testing.T) {
	b, x := exampleBench(), exampleShot()
	r, code := impl.TakeReport(b, x)
	same(t, "report", r, code, exampleReport(), impl.OK)
	readings, code := readEnds(b, x)
	same(t, "readings", readings, code, couple{whole(2), frac(57, 10)}, impl.OK)
	is, code := impl.CheckReport(b, r)
	same(t, "check", is, code, true, impl.OK)
	r.First = whole(3)
	is, code = impl.CheckReport(b, r)
	same(t, "another reading", is, code, false, impl.OK)
	found, code := impl.FoundErrors(scale(whole(1), whole(0), frac(1, 8), frac(1, 4)))
	sameList(t, "found", found, code, []Frac{whole(0), frac(1, 8), frac(1, 4)}, impl.OK)
}
