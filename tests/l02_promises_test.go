package tests

import (
	"math"
	"math/big"
	"math/rand"
	"slices"
	"strings"
	"testing"

	"loop.example/g01254/impl"
)

// TestPromise1EveryFunctionOfScalesReturns calls every function of chapter 2 twice, with arguments of all kinds.
func TestPromise1EveryFunctionOfScalesReturns(t *testing.T) {
	scales := slices.Concat(validScales(), invalidScales())
	verniers := append(validVerniers(), invalidVerniers()...)
	fracs := append(validFracs(), invalidFracs()...)
	numbers := []int64{0, 1, -1, 2, 20, 60, 61, 10000, -10001, math.MaxInt64, math.MinInt64, math.MinInt64 + 1}
	for i, s := range scales {
		for k, x := range fracs {
			v, n := verniers[(i+k)%len(verniers)], numbers[(i+k)%len(numbers)]
			by := slices.Concat(fracs[k:min(k+2, len(fracs))], s.Errors)[:len(s.Errors)]
			twice(t, func() any { return impl.ValidScale(s) })
			twice(t, func() any { return impl.SameScale(s, scales[(i+k)%len(scales)]) })
			twice(t, func() any { return results(impl.EvenScale(x, n)) })
			twice(t, func() any { return results(impl.MarkAt(s, n)) })
			twice(t, func() any { return results(impl.WorstError(s)) })
			twice(t, func() any { return results(impl.NearestMark(s, x)) })
			twice(t, func() any { return impl.ValidVernier(v) })
			twice(t, func() any { return results(impl.LeastCount(s, v)) })
			twice(t, func() any { return results(impl.LineAt(s, v, x, n)) })
			twice(t, func() any { return results(impl.MisfitOf(s, v, x, n)) })
			twice(t, func() any { return results(impl.LineThatFits(s, v, x)) })
			twice(t, func() any { return results(impl.ReadVernier(s, v, x)) })
			twice(t, func() any { return results(impl.ReadingSpan(s, v, x)) })
			twice(t, func() any { return results(impl.CorrectScale(s, by)) })
			twice(t, func() any { return results(impl.WarmScale(s, x)) })
			twice(t, func() any { return impl.ScaleText(s) })
			twice(t, func() any { return results(impl.ReadScale(impl.ScaleText(s) + " " + impl.FracText(x))) })
		}
	}
}

// TestPromise1EveryFunctionOfScrewsReturns does so with screws and spindles.
func TestPromise1EveryFunctionOfScrewsReturns(t *testing.T) {
	screws := append(validScrews(), invalidScrews()...)
	fracs := append(validFracs(), invalidFracs()...)
	numbers := []int64{0, 1, -1, 20, 10000, -10000, 10001, math.MaxInt64, math.MinInt64, math.MinInt64 + 1}
	for _, m := range screws {
		for k, at := range fracs {
			x := spindle(numbers[k%len(numbers)], at)
			n := numbers[(3*k+1)%len(numbers)]
			twice(t, func() any { return impl.ValidScrew(m) })
			twice(t, func() any { return impl.ValidSpindle(m, x) })
			twice(t, func() any { return results(impl.ReadSpindle(m, x)) })
			for _, y := range []Spindle{x, spindle(0, whole(0))} {
				twice(t, func() any { return results(impl.TurnSpindle(m, y, n)) })
				twice(t, func() any { return results(impl.PlayFound(m, y, n)) })
				twice(t, func() any {
					z, parts, code := impl.TurnTo(m, y, at, n)
					return []any{z, parts, code}
				})
			}
		}
	}
}

// withSpare returns a scale whose errors are the beginning of a longer list, and this list.
func withSpare(s Scale) (Scale, []Frac) {
	long := append(slices.Clone(s.Errors), frac(-7, 3), whole(99), frac(0, 0))
	return Scale{Unit: s.Unit, Errors: long[:len(s.Errors)]}, long
}

func TestPromise1NoScaleIsModified(t *testing.T) {
	for _, old := range slices.Concat(validScales(), invalidScales()) {
		s, long := withSpare(old)
		before := slices.Clone(long)
		v, x := Vernier{Parts: 3}, frac(1, 3)
		by, longBy := withSpare(Scale{Errors: repeated(frac(1, 10), len(s.Errors))})
		beforeBy := slices.Clone(longBy)
		impl.ValidScale(s)
		impl.SameScale(s, s)
		impl.MarkAt(s, 1)
		impl.WorstError(s)
		impl.NearestMark(s, x)
		impl.LeastCount(s, v)
		impl.LineAt(s, v, x, 1)
		impl.MisfitOf(s, v, x, 1)
		impl.LineThatFits(s, v, x)
		impl.ReadVernier(s, v, x)
		impl.ReadingSpan(s, v, x)
		impl.CorrectScale(s, by.Errors)
		impl.CorrectScale(s, s.Errors)
		impl.WarmScale(s, frac(1, 10))
		impl.ScaleText(s)
		if !slices.Equal(long, before) || !slices.Equal(longBy, beforeBy) {
			t.Errorf("%+v: the errors have become %v, and the others %v", old, long, longBy)
		}
	}
}

// TestPromise1ScalesShareNoMemory writes into what a scale has been made of, and into the scale.
func TestPromise1ScalesShareNoMemory(t *testing.T) {
	s := scale(whole(1), frac(1, 8), frac(-1, 8), whole(0))
	by := []Frac{whole(0), whole(0), whole(0)}
	for _, build := range []func() (Scale, int64){
		func() (Scale, int64) { return impl.EvenScale(whole(1), 3) },
		func() (Scale, int64) { return impl.CorrectScale(s, by) },
		func() (Scale, int64) { return impl.WarmScale(s, whole(0)) },
		func() (Scale, int64) { return impl.ReadScale("1 1/8 -1/8 0") },
	} {
		one, _ := build()
		two, code := build()
		want := Scale{Unit: two.Unit, Errors: slices.Clone(two.Errors)}
		all := one.Errors[:cap(one.Errors)]
		for k := range all {
			all[k] = whole(77)
		}
		sameScale(t, "another one", two, code, want, impl.OK)
		sameScale(t, "the argument", s, impl.OK, scale(whole(1), frac(1, 8), frac(-1, 8), whole(0)), impl.OK)
		if !slices.Equal(by, repeated(whole(0), 3)) {
			t.Errorf("the errors have become %v", by)
		}
	}
}

func TestPromise1NilErrorsAreEmpty(t *testing.T) {
	none, empty := scale(whole(1)), Scale{Unit: whole(1), Errors: make([]Frac, 0, 5)}
	if !impl.SameScale(none, empty) || impl.ValidScale(none) || impl.ValidScale(empty) {
		t.Error("no errors and an empty list of them are not the same")
	}
	for _, by := range [][]Frac{nil, make([]Frac, 0, 5)} {
		got, code := impl.CorrectScale(even(whole(1), 2), by)
		sameScale(t, by, got, code, Scale{}, impl.ErrRange)
		got, code = impl.CorrectScale(none, by)
		sameScale(t, by, got, code, Scale{}, impl.ErrInvalid)
	}
}

func TestPromise1VeryLongScales(t *testing.T) {
	const elements = 1000000
	long := even(whole(1), elements)
	if impl.ValidScale(long) || !impl.SameScale(long, even(whole(1), elements)) || impl.SameScale(long, even(whole(1), elements-1)) || impl.ScaleText(long) != "" {
		t.Error("a very long scale is not told as it is")
	}
	got, code := impl.CorrectScale(even(whole(1), 2), long.Errors)
	sameScale(t, "correct", got, code, Scale{}, impl.ErrRange)
	long.Errors[elements-1] = frac(math.MinInt64, math.MinInt64)
	got, code = impl.CorrectScale(even(whole(1), 2), long.Errors)
	sameScale(t, "correct", got, code, Scale{}, impl.ErrInvalid)
	got, code = impl.WarmScale(long, whole(0))
	sameScale(t, "warm", got, code, Scale{}, impl.ErrInvalid)
	got, code = impl.ReadScale("1" + strings.Repeat(" 0", elements))
	sameScale(t, "read", got, code, Scale{}, impl.ErrSyntax)
}

// someScale returns a scale with errors of all sizes up to a part of a quarter of the unit.
func someScale(random *rand.Rand, part int64) Scale {
	unit := []Frac{whole(1), frac(1, 2), frac(5, 2), whole(10), frac(3, 4)}[random.Intn(5)]
	s := even(unit, 3+random.Intn(12))
	for k := range s.Errors {
		size := new(big.Rat).Mul(rat(unit), big.NewRat(random.Int63n(2*part+1)-part, 400))
		s.Errors[k], _ = toldRat(size)
	}
	return s
}

// checkReadingHolds fails if a reading is not in its span; it reports whether there is a reading.
func checkReadingHolds(t *testing.T, s Scale, v Vernier, x Frac) bool {
	t.Helper()
	reading, code := impl.ReadVernier(s, v, x)
	if code != impl.OK {
		return false
	}
	around, code := impl.ReadingSpan(s, v, reading)
	if code != impl.OK {
		return false
	}
	if in, _ := impl.InSpan(around, x); !in {
		t.Errorf("%+v, %+v: %v is read as %v, and is not in %v", s, v, x, reading, around)
	}
	if worst, _ := impl.WorstError(s); worst.P == 0 {
		least, code := impl.LeastCount(s, v)
		away := new(big.Rat).Sub(rat(x), rat(reading))
		if code != impl.OK || away.Abs(away).Cmp(new(big.Rat).Mul(big.NewRat(1, 2), rat(least))) > 0 {
			t.Errorf("%+v, %+v: %v is read as %v", s, v, x, reading)
		}
	}
	return true
}

// TestPromise3WhatIsReadLiesInItsSpan reads places of all kinds on scales without errors, with small and with the greatest ones.
func TestPromise3WhatIsReadLiesInItsSpan(t *testing.T) {
	read := 0
	onVerniers(func(s Scale, v Vernier, x Frac, _ bool) { checkReadingHolds(t, s, v, x) })
	random := rand.New(rand.NewSource(2))
	for i := range 900 {
		s := someScale(random, []int64{0, 3, 100}[i%3])
		first, _ := impl.MarkAt(s, 0)
		for range 10 {
			v := Vernier{Parts: 2 + random.Int63n(12), Back: random.Intn(2) == 0}
			step := new(big.Rat).Mul(rat(s.Unit), big.NewRat(random.Int63n(1000), 83))
			x, code := toldRat(step.Add(step, rat(first)))
			if code == impl.OK && checkReadingHolds(t, s, v, x) {
				read++
			}
		}
	}
	if read < 1500 {
		t.Errorf("only %d were read", read)
	}
}

// TestReadingsOfEveryLine reads all exact multiples of a least count, each of which is its own reading.
func TestReadingsOfEveryLine(t *testing.T) {
	for _, v := range validVerniers() {
		s := even(whole(1), impl.MaxMarks)
		for n := range int64(10) * v.Parts {
			x, code := toldRat(big.NewRat(n, v.Parts))
			got, gotCode := impl.ReadVernier(s, v, x)
			same(t, []any{v, x}, got, gotCode, x, code)
			line, code := impl.LineThatFits(s, v, x)
			want := n % v.Parts
			if v.Back {
				want = (v.Parts - want) % v.Parts
			}
			same(t, []any{v, x}, line, code, want, impl.OK)
		}
	}
}

// checkPlay fails if a spindle is not in its play.
func checkPlay(t *testing.T, m Screw, x Spindle) {
	t.Helper()
	nut, code := impl.ReadSpindle(m, x)
	low := new(big.Rat).Sub(rat(nut), rat(m.Play))
	if code != impl.OK || !impl.ValidSpindle(m, x) || low.Cmp(rat(x.At)) > 0 || rat(x.At).Cmp(rat(nut)) > 0 {
		t.Errorf("%+v: %+v is not in its play", m, x)
	}
}

// TestPromise4ASpindleStaysWithinItsPlay turns spindles hither and thither.
func TestPromise4ASpindleStaysWithinItsPlay(t *testing.T) {
	random := rand.New(rand.NewSource(4))
	turned, pulled := 0, 0
	for _, m := range validScrews() {
		x := spindle(0, whole(0))
		for range 400 {
			by := random.Int63n(2*m.Parts+41) - m.Parts - 20
			y, code := impl.TurnSpindle(m, x, by)
			if code != impl.OK {
				continue
			}
			turned++
			checkPlay(t, m, y)
			// A turn forward of at least the play: the spindle is read as Play more than where it stands.
			if forward := new(big.Rat).Mul(big.NewRat(by, m.Parts), rat(m.Pitch)); forward.Cmp(rat(m.Play)) >= 0 {
				pulled++
				nut, _ := impl.ReadSpindle(m, y)
				if rat(nut).Cmp(new(big.Rat).Add(rat(y.At), rat(m.Play))) != 0 {
					t.Errorf("%+v: %+v by %d is %+v", m, x, by, y)
				}
			}
			if z, _, code := impl.TurnTo(m, y, x.At, 300); code == impl.OK {
				checkPlay(t, m, z)
			}
			x = y
		}
	}
	if turned < 1000 || pulled < 200 {
		t.Errorf("only %d turned, %d of them forward", turned, pulled)
	}
}

// TestTurningPartByPart compares one turn with as many turns by one part.
func TestTurningPartByPart(t *testing.T) {
	for _, m := range validScrews()[:8] {
		for _, x := range spindlesOf(m) {
			for _, by := range []int64{0, 1, -1, 7, -7, 30, -30} {
				step, y, stepCode := int64(1), x, int64(impl.OK)
				if by < 0 {
					step = -1
				}
				for n := int64(0); n != by && stepCode == impl.OK; n += step {
					y, stepCode = impl.TurnSpindle(m, y, step)
				}
				got, code := impl.TurnSpindle(m, x, by)
				same(t, []any{m, x, by}, got, code, y, stepCode)
			}
		}
	}
}
