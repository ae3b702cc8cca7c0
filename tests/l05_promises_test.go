package tests

import (
	"math"
	"math/big"
	"math/rand"
	"slices"
	"strings"
	"testing"

	"loop.example/g01254/impl"
)

// TestPromise1EveryFunctionOfChainsReturns calls every function of chapter 5 twice, with arguments of all kinds.
func TestPromise1EveryFunctionOfChainsReturns(t *testing.T) {
	chains := append(validChains(), invalidChains()...)
	spans := append(validSpans(), invalidSpans()...)
	numbers := append(noDays(), 0, 1, 2, 3, 10, 29, 30, 60, 500, impl.MaxDay)
	for n, list := range chains {
		s, other := spans[7*n%len(spans)], chains[(11*n+1)%len(chains)]
		twice(t, func() any { return impl.ValidChain(list) })
		twice(t, func() any { return impl.SameChain(list, other) })
		twice(t, func() any { return impl.ChainText(list) })
		twice(t, func() any { return results(impl.ReadChain(impl.ChainText(list) + impl.ChainText(other))) })
		for _, x := range other {
			twice(t, func() any { return results(impl.FindStandard(list, x.Name)) })
			twice(t, func() any { return results(impl.Calibrate(list, x)) })
		}
		for m, i := range numbers {
			day, k := numbers[(n+5*m)%len(numbers)], numbers[(3*n+7*m)%len(numbers)]
			twice(t, func() any { return results(impl.PathTo(list, i)) })
			twice(t, func() any { return results(impl.IsGood(list, i, day)) })
			twice(t, func() any { return results(impl.SpanOn(list, i, day)) })
			twice(t, func() any { return results(impl.AllOn(list, day)) })
			twice(t, func() any { return results(impl.LastDay(list, i)) })
			twice(t, func() any { return results(impl.UsersOf(list, i)) })
			twice(t, func() any { return results(impl.RecallOf(list, i, day)) })
			twice(t, func() any { return results(impl.DueBetween(list, i, day)) })
			twice(t, func() any { return triple(impl.WidestLink(list, i, day)) })
			twice(t, func() any { return triple(impl.BestOn(list, day)) })
			twice(t, func() any { return results(impl.DifferenceOn(list, i, k, day)) })
			twice(t, func() any { return results(impl.AreApart(list, i, k, day)) })
			twice(t, func() any { return results(impl.RenewStandard(list, i, k, s, day)) })
			twice(t, func() any { return results(impl.NarrowBy(list, i, day, s)) })
		}
	}
}

// withMore returns a chain that is the beginning of a longer list, and this list.
func withMore(list []Standard) (chain, long []Standard) {
	long = append(slices.Clone(list), standard("spare", -7, between(9, 8), frac(0, 0), -5, 77), steady("more", 0, between(1, 2)))
	return long[:len(list)], long
}

func TestPromise1NoChainIsModified(t *testing.T) {
	for _, old := range append(validChains(), invalidChains()...) {
		list, long := withMore(old)
		before := slices.Clone(long)
		impl.ValidChain(list)
		impl.SameChain(list, list)
		impl.FindStandard(list, "bar")
		impl.AllOn(list, 60)
		impl.DueBetween(list, 0, impl.MaxDay)
		impl.BestOn(list, 60)
		impl.ChainText(list)
		impl.Calibrate(list, steady("ell", -1, between(0, 0)))
		impl.Calibrate(list, Standard{})
		for i := range int64(len(list)) {
			for _, day := range []int64{old[i].Made, 60} {
				impl.PathTo(list, i)
				impl.IsGood(list, i, day)
				impl.SpanOn(list, i, day)
				impl.LastDay(list, i)
				impl.UsersOf(list, i)
				impl.RecallOf(list, i, day)
				impl.WidestLink(list, i, day)
				impl.DifferenceOn(list, i, 0, day)
				impl.AreApart(list, 0, i, day)
				impl.RenewStandard(list, i, -1, between(-3, 5), day)
				impl.RenewStandard(list, i, i, between(-3, 5), day)
				impl.NarrowBy(list, i, day, between(0, 5))
			}
		}
		if !slices.Equal(long, before) {
			t.Errorf("%+v: the list has become %+v", old, long)
		}
	}
}

// TestPromise1ChainsShareNoMemory writes into all that results have room for.
func TestPromise1ChainsShareNoMemory(t *testing.T) {
	list, long := withMore(exampleChain())
	before := slices.Clone(long)
	for i, build := range []func() ([]Standard, int64){
		func() ([]Standard, int64) { return impl.Calibrate(list, steady("ell", -1, between(0, 0))) },
		func() ([]Standard, int64) { return impl.RenewStandard(list, 1, 0, between(0, 0), 20) },
		func() ([]Standard, int64) { return impl.ReadChain(impl.ChainText(list)) },
	} {
		one, _ := build()
		two, code := build()
		want := slices.Clone(two)
		spoil(one, steady("spoiled", -9, between(7, 7)))
		sameChain(t, i, two, code, want, impl.OK)
	}
	for i, build := range []func() ([]int64, int64){
		func() ([]int64, int64) { return impl.PathTo(list, 2) },
		func() ([]int64, int64) { return impl.AllOn(list, 60) },
		func() ([]int64, int64) { return impl.UsersOf(list, 0) },
		func() ([]int64, int64) { return impl.RecallOf(list, 0, 5) },
		func() ([]int64, int64) { return impl.DueBetween(list, 0, 2000) },
	} {
		one, _ := build()
		two, code := build()
		want := slices.Clone(two)
		spoil(one, -77)
		sameList(t, i, two, code, want, impl.OK)
		if len(want) < 2 {
			t.Errorf("%d: got only %v", i, want)
		}
	}
	sameChain(t, "the list", long, 0, before, 0)
}

func TestPromise1NilChainsAreEmpty(t *testing.T) {
	for _, list := range [][]Standard{nil, {}, make([]Standard, 0, 5)} {
		if !impl.ValidChain(list) || !impl.SameChain(list, nil) || impl.ChainText(list) != "" {
			t.Errorf("%#v is the empty chain", list)
		}
		found, code := impl.FindStandard(list, "a")
		same(t, "find", found, code, 0, impl.ErrNotFound)
		for name, of := range map[string]func() ([]int64, int64){
			"path": func() ([]int64, int64) { return impl.PathTo(list, 0) }, "users": func() ([]int64, int64) { return impl.UsersOf(list, 0) }, "recall": func() ([]int64, int64) { return impl.RecallOf(list, 0, 0) },
		} {
			got, code := of()
			sameList(t, name, got, code, nil, impl.ErrRange)
		}
		all, code := impl.AllOn(list, 5)
		sameList(t, "all", all, code, nil, impl.OK)
		due, code := impl.DueBetween(list, 0, impl.MaxDay)
		sameList(t, "due", due, code, nil, impl.OK)
		s, code := impl.SpanOn(list, 0, 0)
		same(t, "span", s, code, Span{}, impl.ErrRange)
		best, code := bestOn(list, 0)
		same(t, "best", best, code, asked[Span]{}, impl.ErrNotFound)
		d, code := impl.DifferenceOn(list, 0, 0, 0)
		same(t, "difference", d, code, Span{}, impl.ErrRange)
		longer, code := impl.Calibrate(list, steady("a", -1, between(0, 1)))
		sameChain(t, "calibrate", longer, code, []Standard{steady("a", -1, between(0, 1))}, impl.OK)
		renewed, code := impl.RenewStandard(list, 0, -1, between(0, 1), 0)
		sameChain(t, "renew", renewed, code, nil, impl.ErrRange)
	}
	read, code := impl.ReadChain("")
	sameChain(t, "read", read, code, nil, impl.OK)
}

func TestPromise1VeryLongChains(t *testing.T) {
	const elements = 1000000
	long := repeated(steady("a", -1, between(0, 0)), elements/12)
	if impl.ValidChain(long) || !impl.SameChain(long, slices.Clone(long)) || impl.SameChain(long, long[1:]) || impl.ChainText(long) != "" {
		t.Error("a very long chain is not told as it is")
	}
	s, code := impl.SpanOn(long, 0, 0)
	same(t, "span", s, code, Span{}, impl.ErrInvalid)
	got, code := impl.Calibrate(long, steady("b", -1, between(0, 0)))
	sameChain(t, "calibrate", got, code, nil, impl.ErrInvalid)
	name := strings.Repeat("a", elements)
	if impl.ValidChain([]Standard{steady(name, -1, between(0, 0))}) {
		t.Error("a very long name is no name")
	}
	found, code := impl.FindStandard(exampleChain(), name)
	same(t, "find", found, code, 0, impl.ErrNotFound)
	got, code = impl.Calibrate(nil, steady(name, -1, between(0, 0)))
	sameChain(t, "calibrate", got, code, nil, impl.ErrState)
	got, code = impl.ReadChain(name + " - 0..0 0 0 0\n")
	sameChain(t, "read", got, code, nil, impl.ErrSyntax)
}

// truth is what the values of a chain really are: how far each one was in its span, and what each one has done on each day since then.
type truth struct {
	list   []Standard
	part   []*big.Rat // 0 at Low, 1 at High
	before []*big.Rat // by how much of its Drift each one changes on a day, up to a day
	after  []*big.Rat // and from then on
	turn   []int64
}

func someTruth(random *rand.Rand, list []Standard) truth {
	x := truth{list: list}
	parts := []*big.Rat{big.NewRat(0, 1), big.NewRat(1, 1), big.NewRat(1, 2), big.NewRat(1, 3)}
	changes := []*big.Rat{big.NewRat(1, 1), big.NewRat(-1, 1), big.NewRat(0, 1), big.NewRat(2, 3)}
	for range list {
		x.part = append(x.part, parts[random.Intn(4)])
		x.before, x.after = append(x.before, changes[random.Intn(4)]), append(x.after, changes[random.Intn(4)])
		x.turn = append(x.turn, random.Int63n(20))
	}
	return x
}

// valueOn returns the value of a standard on a day, which is what it was above the one that calibrated it, and what it has done since then.
func (x truth) valueOn(i, day int64) *big.Rat {
	s, value := x.list[i], new(big.Rat)
	if s.From >= 0 {
		value = x.valueOn(s.From, s.Made)
	}
	width := new(big.Rat).Sub(rat(s.Value.High), rat(s.Value.Low))
	value.Add(value, rat(s.Value.Low)).Add(value, width.Mul(width, x.part[i]))
	early := min(day-s.Made, x.turn[i])
	for _, c := range []struct {
		change *big.Rat
		days   int64
	}{{x.before[i], early}, {x.after[i], day - s.Made - early}} {
		change := new(big.Rat).Mul(big.NewRat(c.days, 1), rat(s.Drift))
		value.Add(value, change.Mul(change, c.change))
	}
	return value
}

func holds(s Span, value *big.Rat) bool {
	return rat(s.Low).Cmp(value) <= 0 && value.Cmp(rat(s.High)) <= 0
}

// TestPromise10SpansHoldWhatTheirChainsAllow makes values of standards that their chain allows.
func TestPromise10SpansHoldWhatTheirChainsAllow(t *testing.T) {
	random := rand.New(rand.NewSource(10))
	held := 0
	for _, list := range validChains() {
		for range 12 {
			x := someTruth(random, list)
			for i := range int64(len(list)) {
				day := list[i].Made + random.Int63n(list[i].Good+1)
				if s, code := impl.SpanOn(list, i, day); code == impl.OK {
					held++
					if value := x.valueOn(i, day); !holds(s, value) {
						t.Errorf("%+v: on the day %d, %d is %v, which is not in %v", list, day, i, value, s)
					}
				}
			}
		}
	}
	if held < 3000 {
		t.Errorf("only %d were held", held)
	}
}

// extreme returns the truth with all values as great, or as little, as they can be.
func extreme(list []Standard, isHigh bool) truth {
	part, change := big.NewRat(0, 1), big.NewRat(-1, 1)
	if isHigh {
		part, change = big.NewRat(1, 1), big.NewRat(1, 1)
	}
	n := len(list)
	return truth{list: list, part: repeated(part, n), before: repeated(change, n), after: repeated(change, n), turn: make([]int64, n)}
}

// TestPromise10SpansEndAtWhatTheirChainsAllow has values at both ends, so that no span is wider than it has to be.
func TestPromise10SpansEndAtWhatTheirChainsAllow(t *testing.T) {
	ended := 0
	onDays(func(list []Standard, i, day int64) {
		s, code := impl.SpanOn(list, i, day)
		if code != impl.OK {
			return
		}
		ended++
		if low, high := extreme(list, false).valueOn(i, day), extreme(list, true).valueOn(i, day); rat(s.Low).Cmp(low) != 0 || rat(s.High).Cmp(high) != 0 {
			t.Errorf("%+v: on the day %d, %d can be %v to %v, and has %v", list, day, i, low, high, s)
		}
	})
	if ended < 1000 {
		t.Errorf("only %d ended there", ended)
	}
}

func widthOf(s Span) *big.Rat { return new(big.Rat).Sub(rat(s.High), rat(s.Low)) }

// TestPromise10NoStandardIsKnownBetter compares the width of a span with that by which it has been calibrated, and with those of earlier days.
func TestPromise10NoStandardIsKnownBetter(t *testing.T) {
	compared := 0
	onDays(func(list []Standard, i, day int64) {
		s, code := impl.SpanOn(list, i, day)
		if code != impl.OK {
			return
		}
		width := widthOf(s)
		if early, code := impl.SpanOn(list, i, list[i].Made); code != impl.OK || width.Cmp(widthOf(early)) < 0 {
			t.Errorf("%+v: %d is known better on the day %d than at first", list, i, day)
		}
		if from := list[i].From; from >= 0 {
			compared++
			by, code := impl.SpanOn(list, from, list[i].Made)
			if code != impl.OK || width.Cmp(widthOf(by)) < 0 {
				t.Errorf("%+v: %d is known better on the day %d than %d was", list, i, day, from)
			}
		}
		if _, link, code := impl.WidestLink(list, i, day); code != impl.OK && code != impl.ErrLimit || code == impl.OK && width.Cmp(rat(link)) < 0 {
			t.Errorf("%+v: a link to %d on the day %d adds more than there is", list, i, day)
		}
	})
	if compared < 1000 {
		t.Errorf("only %d were compared", compared)
	}
}

// TestPromise10WhatHasBeenSeenIsHeld narrows a span by one that has the value, too.
func TestPromise10WhatHasBeenSeenIsHeld(t *testing.T) {
	random := rand.New(rand.NewSource(101))
	narrowed := 0
	for _, list := range validChains() {
		for i := range int64(len(list)) {
			day := list[i].Made + random.Int63n(list[i].Good+1)
			value, code := toldRat(someTruth(random, list).valueOn(i, day))
			seen, seenCode := impl.SpanAround(value, frac(random.Int63n(3), 1))
			old, oldCode := impl.SpanOn(list, i, day)
			if code != impl.OK || seenCode != impl.OK || oldCode != impl.OK {
				continue
			}
			narrowed++
			got, code := impl.NarrowBy(list, i, day, seen)
			if code != impl.OK || !holds(got, rat(value)) || !holds(old, rat(got.Low)) || !holds(old, rat(got.High)) || !holds(seen, rat(got.Low)) || !holds(seen, rat(got.High)) {
				t.Errorf("%+v: %d is %v, and %v narrowed by %v is %v", list, i, value, old, seen, got)
			}
		}
	}
	if narrowed < 200 {
		t.Errorf("only %d were narrowed", narrowed)
	}
}

// TestPromise11WhatIsRecalledHasBeenCalibrated looks for what has calibrated each standard that is recalled, and that is not.
func TestPromise11WhatIsRecalledHasBeenCalibrated(t *testing.T) {
	recalled, kept := 0, 0
	onDays(func(list []Standard, i, day int64) {
		got, code := impl.RecallOf(list, i, day)
		if code != impl.OK {
			return
		}
		users, _ := impl.UsersOf(list, i)
		for k, s := range list {
			isRecalled := slices.Contains(got, int64(k))
			byRecalled := slices.Contains(got, s.From)
			byItself := s.From == i && s.Made >= day
			if isRecalled != (byRecalled || byItself) {
				t.Errorf("%+v: of %d on the day %d, %v is recalled", list, i, day, got)
			}
			if isRecalled && (s.Made < day || !slices.Contains(users, int64(k))) {
				t.Errorf("%+v: %d, which is recalled with %d, has been made ahead of the day %d, or is no user", list, k, i, day)
			}
			if isRecalled {
				recalled++
			} else if slices.Contains(users, int64(k)) {
				kept++
			}
		}
		if !slices.IsSorted(got) || len(slices.Compact(slices.Clone(got))) != len(got) {
			t.Errorf("%v is not in order", got)
		}
	})
	if recalled < 1000 || kept < 1000 {
		t.Errorf("%d were recalled, and %d not", recalled, kept)
	}
}

// TestPromise11UsersHaveAStandardOnTheirPath compares users, paths, and the renewal of a standard, which changes the spans of its users alone.
func TestPromise11UsersHaveAStandardOnTheirPath(t *testing.T) {
	for _, list := range validChains() {
		for i := range int64(len(list)) {
			users, code := impl.UsersOf(list, i)
			for k := range int64(len(list)) {
				path, pathCode := impl.PathTo(list, k)
				isUser := k != i && slices.Contains(path, i)
				if code != impl.OK || pathCode != impl.OK || isUser != slices.Contains(users, k) || path[len(path)-1] != k || list[path[0]].From != -1 {
					t.Errorf("%+v: the users of %d are %v, and the path to %d is %v", list, i, users, k, path)
				}
			}
			value := between(500, 700)
			renewed, code := impl.RenewStandard(list, i, list[i].From, value, list[i].Made)
			if code != impl.OK {
				t.Fatalf("%+v: %d cannot be renewed on its day", list, i)
			}
			for k := range int64(len(list)) {
				one, oneCode := impl.SpanOn(list, k, list[k].Made)
				two, twoCode := impl.SpanOn(renewed, k, list[k].Made)
				if k != i && !slices.Contains(users, k) && (one != two || oneCode != twoCode) {
					t.Errorf("%+v: the renewal of %d has changed %d", list, i, k)
				}
			}
		}
	}
}

// TestPromise12DifferencesAreNoWider compares each difference with that of both spans, and with the one the other way about.
func TestPromise12DifferencesAreNoWider(t *testing.T) {
	narrower, asWide := 0, 0
	onPairs(func(list []Standard, i, k, day int64) {
		d, code := impl.DifferenceOn(list, i, k, day)
		back, backCode := impl.DifferenceOn(list, k, i, day)
		if code != backCode || code == impl.OK && (rat(back.Low).Cmp(new(big.Rat).Neg(rat(d.High))) != 0 || rat(back.High).Cmp(new(big.Rat).Neg(rat(d.Low))) != 0) {
			t.Errorf("%+v: on the day %d, %d and %d differ by %v, and back by %v", list, day, i, k, d, back)
		}
		one, oneCode := impl.SpanOn(list, i, day)
		other, otherCode := impl.SpanOn(list, k, day)
		if code != impl.OK || oneCode != impl.OK || otherCode != impl.OK {
			return
		}
		low, high := new(big.Rat).Sub(rat(one.Low), rat(other.High)), new(big.Rat).Sub(rat(one.High), rat(other.Low))
		if rat(d.Low).Cmp(low) < 0 || rat(d.High).Cmp(high) > 0 {
			t.Errorf("%+v: on the day %d, the difference %v of %d and %d is wider than that of %v and %v", list, day, d, i, k, one, other)
		}
		if rat(d.Low).Cmp(low) > 0 && rat(d.High).Cmp(high) < 0 {
			narrower++
		} else {
			asWide++
		}
	})
	if narrower < 500 || asWide < 500 {
		t.Errorf("%d were narrower, and %d as wide", narrower, asWide)
	}
}

// TestPromise12DifferencesHoldWhatTheirChainsAllow makes values of two standards at a time.
func TestPromise12DifferencesHoldWhatTheirChainsAllow(t *testing.T) {
	random := rand.New(rand.NewSource(12))
	held := 0
	onPairs(func(list []Standard, i, k, day int64) {
		d, code := impl.DifferenceOn(list, i, k, day)
		if code != impl.OK {
			return
		}
		held++
		x := someTruth(random, list)
		if value := new(big.Rat).Sub(x.valueOn(i, day), x.valueOn(k, day)); !holds(d, value) {
			t.Errorf("%+v: on the day %d, %d is more than %d by %v, which is not in %v", list, day, i, k, value, d)
		}
	})
	if held < 1000 {
		t.Errorf("only %d were held", held)
	}
}

// farthest returns the truth in which one standard is as much more than another one as it can be: what lies behind the common one on the one path is great, and on the other one little, and the common one itself changes to where it counts for the first.
func farthest(list []Standard, i, k, day int64) truth {
	x := extreme(list, true)
	one, other := pathIn(list, i), pathIn(list, k)
	common := int64(-1)
	for len(one) > 0 && len(other) > 0 && one[0] == other[0] {
		common, one, other = one[0], one[1:], other[1:]
	}
	for _, n := range other {
		x.part[n], x.before[n], x.after[n] = big.NewRat(0, 1), big.NewRat(-1, 1), big.NewRat(-1, 1)
	}
	if common >= 0 && untilNext(list, one, -1, day) < untilNext(list, other, -1, day) {
		x.before[common], x.after[common] = big.NewRat(-1, 1), big.NewRat(-1, 1)
	}
	return x
}

// TestPromise12DifferencesEndAtWhatTheirChainsAllow has values that differ as much as they can, so that no difference is wider than it has to be.
func TestPromise12DifferencesEndAtWhatTheirChainsAllow(t *testing.T) {
	ended := 0
	onPairs(func(list []Standard, i, k, day int64) {
		d, code := impl.DifferenceOn(list, i, k, day)
		if code != impl.OK {
			return
		}
		ended++
		x := farthest(list, i, k, day)
		if value := new(big.Rat).Sub(x.valueOn(i, day), x.valueOn(k, day)); rat(d.High).Cmp(value) != 0 {
			t.Errorf("%+v: on the day %d, %d can be more than %d by %v, and %v is told", list, day, i, k, value, d)
		}
	})
	if ended < 1000 {
		t.Errorf("only %d ended there", ended)
	}
}

// TestGuaranteesOfChains has what follows from several functions together.
func TestGuaranteesOfChains(t *testing.T) {
	for _, list := range validChains() {
		for _, day := range daysOf(list) {
			all, code := impl.AllOn(list, day)
			if code != impl.OK {
				continue
			}
			best, s, code := impl.BestOn(list, day)
			for i := range int64(len(list)) {
				good, _ := impl.IsGood(list, i, day)
				last, _ := impl.LastDay(list, i)
				if good != slices.Contains(all, i) || good != (day >= list[i].Made && day <= last) {
					t.Errorf("%+v: on the day %d, %d is good or not", list, day, i)
				}
				if other, otherCode := impl.SpanOn(list, i, day); good && code == impl.OK && (otherCode != impl.OK || widthOf(other).Cmp(widthOf(s)) < 0 || i < best && widthOf(other).Cmp(widthOf(s)) == 0) {
					t.Errorf("%+v: on the day %d, %d is better than %d", list, day, i, best)
				}
			}
			if len(all) == 0 && code != impl.ErrNotFound {
				t.Errorf("%+v: on the day %d: %s", list, day, impl.CodeName(code))
			}
		}
		for i, s := range list {
			if found, code := impl.FindStandard(list, s.Name); found != int64(i) || code != impl.OK {
				t.Errorf("%+v: %s is not found", list, s.Name)
			}
			if built, code := impl.Calibrate(list[:i], s); code != impl.OK || !impl.SameChain(built, list[:i+1]) {
				t.Errorf("%+v: %d cannot be calibrated once more", list, i)
			}
		}
	}
	if _, code := impl.SpanOn(exampleChain(), math.MaxInt64, 0); code != impl.ErrRange {
		t.Error("there is no such standard")
	}
}
