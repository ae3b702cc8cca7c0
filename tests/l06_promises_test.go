package tests

import (
	"math"
	"math/big"
	"math/rand"
	"runtime"
	"slices"
	"strings"
	"sync"
	"testing"

	"loop.example/g01254/impl"
)

// TestPromise1EveryFunctionOfReadersReturns calls every function of chapter 6 twice, with arguments of all kinds.
func TestPromise1EveryFunctionOfReadersReturns(t *testing.T) {
	readers := append(validReaders(), invalidReaders()...)
	values := append(readValues(), invalidFracs()...)
	lists := append(ordinaryLists(), wrongLists()...)
	numbers := []int64{0, 1, 2, 3, 100, 101, -1, 32, math.MaxInt64, math.MinInt64, math.MinInt64 + 1}
	n := 0
	for _, r := range readers {
		twice(t, func() any { return impl.ValidReader(r) })
		for _, value := range values {
			twice(t, func() any { return results(impl.ReadingOf(r, value)) })
		}
	}
	for i, list := range lists {
		r, other := readers[7*i%len(readers)], lists[(5*i+1)%len(lists)]
		twice(t, func() any { return results(impl.MedianOf(list)) })
		twice(t, func() any { return results(impl.ScatterOf(list)) })
		twice(t, func() any { return results(impl.LastDigits(list)) })
		twice(t, func() any { return triple(impl.LikedDigit(list)) })
		twice(t, func() any { return results(impl.UnitSeen(list)) })
		twice(t, func() any { return results(impl.MeanDifference(list, other)) })
		twice(t, func() any { return results(impl.CorrectReadings(r, list)) })
		twice(t, func() any { return results(impl.ValueFrom(repeated(r, len(list)), list)) })
		for _, number := range numbers {
			twice(t, func() any { return results(impl.LeaveOut(list, number)) })
			twice(t, func() any { return results(impl.TrimmedMean(list, number)) })
		}
	}
	onTrials(func(x trial) {
		n++
		some := slices.Concat(readers[n%len(readers):], readers)[:n%15]
		if n%3 > 0 {
			some = namedReaders(n % 14)
		}
		r := readers[n%len(readers)]
		twice(t, func() any { return results(impl.ReadingsOf(r, x.values)) })
		twice(t, func() any { return results(impl.Explains(guessOf(r), x.values, x.readings)) })
		twice(t, func() any { return results(impl.HabitOf(x.values, x.readings)) })
		twice(t, func() any { return results(impl.CountHabits(x.values, x.readings)) })
		twice(t, func() any { return results(impl.WhoRead(some, x.values, x.readings)) })
		twice(t, func() any { return results(nearestReader(some, x)) })
		twice(t, func() any { return impl.ReadersText(some) })
		twice(t, func() any { return results(impl.ReadReaders(impl.ReadersText(some) + "x")) })
	})
}

// longer returns a list that is the beginning of a longer one, this, and what is in it.
func longer[T any](list []T, more ...T) (short, long, before []T) {
	long = append(slices.Clone(list), more...)
	return long[:len(list)], long, slices.Clone(long)
}

func TestPromise1NoReadingsAreModified(t *testing.T) {
	for _, old := range append(ordinaryLists(), wrongLists()...) {
		list, long, before := longer(old, 77, -78, math.MinInt64)
		other, otherLong, otherBefore := longer(old, 5, -6)
		impl.MedianOf(list)
		impl.ScatterOf(list)
		impl.LeaveOut(list, 1)
		impl.LeaveOut(list, 3)
		impl.TrimmedMean(list, 0)
		impl.TrimmedMean(list, 1)
		impl.LastDigits(list)
		impl.LikedDigit(list)
		impl.UnitSeen(list)
		impl.MeanDifference(list, other)
		impl.MeanDifference(list, list)
		impl.CorrectReadings(reader("a", 3, 1, true), list)
		if !slices.Equal(long, before) || !slices.Equal(otherLong, otherBefore) {
			t.Errorf("%v has become %v", old, long)
		}
	}
}

func TestPromise1NoTrialIsModified(t *testing.T) {
	n := 0
	onTrials(func(x trial) {
		n++
		readers, longReaders, beforeReaders := longer(namedReaders(n%14), reader("spare", 99, -5, true), Reader{})
		values, longValues, beforeValues := longer(x.values, frac(0, 0), whole(7))
		readings, longReadings, beforeReadings := longer(x.readings, 77, -78)
		impl.ReadingsOf(exampleReader(), values)
		impl.Explains(guess(0, 1, true), values, readings)
		impl.HabitOf(values, readings)
		impl.CountHabits(values, readings)
		impl.WhoRead(readers, values, readings)
		impl.NearestReader(readers, values, readings)
		impl.ValueFrom(readers, readings)
		impl.ValueFrom(readers, rising64(len(readers)))
		impl.ReadersText(readers)
		if !slices.Equal(longReaders, beforeReaders) || !slices.Equal(longValues, beforeValues) || !slices.Equal(longReadings, beforeReadings) {
			t.Errorf("%+v has become %v and %v, of %+v", x, longValues, longReadings, longReaders)
		}
	})
}

// TestPromise1ReadersShareNoMemory writes into all that results have room for.
func TestPromise1ReadersShareNoMemory(t *testing.T) {
	r, unit := exampleReader(), reader("bob", 0, 1, true)
	values, readings := wholes(1, 2, 3), []int64{1, 2, 3}
	for i, build := range []func() ([]int64, int64){
		func() ([]int64, int64) { return impl.ReadingsOf(r, values) },
		func() ([]int64, int64) { return impl.LeaveOut(readings, 5) },
		func() ([]int64, int64) { return impl.LeaveOut([]int64{9, 1, 2, 3, 99999, 4}, 5) },
		func() ([]int64, int64) { return impl.WhoRead([]Reader{unit, unit, r}, values, readings) },
	} {
		one, _ := build()
		two, code := build()
		want := slices.Clone(two)
		spoil(one, -77)
		sameList(t, i, two, code, want, impl.OK)
		if len(want) < 2 {
			t.Errorf("%d: got only %v", i, want)
		}
	}
	sameList(t, "readings", readings, 0, []int64{1, 2, 3}, 0)
	spans, _ := impl.CorrectReadings(unit, readings)
	again, code := impl.CorrectReadings(unit, readings)
	want := slices.Clone(again)
	spoil(spans, between(7, 7))
	sameList(t, "spans", again, code, want, impl.OK)
	list, _ := impl.ReadReaders("ann 1 5 up\nbob 0 1 up\n")
	more, code := impl.ReadReaders("ann 1 5 up\nbob 0 1 up\n")
	spoil(list, Reader{})
	sameList(t, "readers", more, code, []Reader{r, unit}, impl.OK)
}

func TestPromise1NilReadingsAreEmpty(t *testing.T) {
	for i, readings := range [][]int64{nil, {}, make([]int64, 0, 5)} {
		values, list := [][]Frac{nil, {}, make([]Frac, 0, 5)}[i], [][]Reader{{}, make([]Reader, 0, 5), nil}[i]
		n, code := impl.ReadingsOf(exampleReader(), values)
		sameList(t, "readings", n, code, nil, impl.ErrRange)
		median, code := impl.MedianOf(readings)
		same(t, "median", median, code, Frac{}, impl.ErrRange)
		left, code := impl.LeaveOut(readings, 1)
		sameList(t, "left", left, code, nil, impl.ErrRange)
		is, code := impl.Explains(guess(0, 1, true), values, readings)
		same(t, "explains", is, code, false, impl.ErrRange)
		g, code := impl.HabitOf(values, readings)
		same(t, "habit", g, code, Guess{}, impl.ErrRange)
		who, code := impl.WhoRead(list, wholes(1), []int64{1})
		sameList(t, "who", who, code, nil, impl.ErrRange)
		d, code := impl.MeanDifference(readings, nil)
		same(t, "difference", d, code, Frac{}, impl.ErrRange)
		spans, code := impl.CorrectReadings(exampleReader(), readings)
		sameList(t, "spans", spans, code, nil, impl.ErrRange)
		v, code := impl.ValueFrom(list, readings)
		same(t, "value", v, code, Span{}, impl.ErrRange)
		if text := impl.ReadersText(list); text != "" {
			t.Errorf("no readers have the text %q", text)
		}
	}
}

func TestPromise1VeryLongReadings(t *testing.T) {
	const elements = 1000000
	readings, values, list := make([]int64, elements), repeated(whole(0), elements/2), repeated(exampleReader(), elements/4)
	median, code := impl.MedianOf(readings)
	same(t, "median", median, code, Frac{}, impl.ErrRange)
	left, code := impl.LeaveOut(readings, 3)
	sameList(t, "left", left, code, nil, impl.ErrRange)
	mean, code := impl.TrimmedMean(readings, elements/2-1)
	same(t, "mean", mean, code, Frac{}, impl.ErrRange)
	unit, code := impl.UnitSeen(readings)
	same(t, "unit", unit, code, 0, impl.ErrRange)
	n, code := impl.ReadingsOf(exampleReader(), values)
	sameList(t, "readings", n, code, nil, impl.ErrRange)
	count, code := impl.CountHabits(values, readings[:elements/2])
	same(t, "count", count, code, 0, impl.ErrRange)
	who, code := impl.WhoRead(list, wholes(1), []int64{1})
	sameList(t, "who", who, code, nil, impl.ErrRange)
	v, code := impl.ValueFrom(list, readings[:len(list)])
	same(t, "value", v, code, Span{}, impl.ErrRange)
	values[len(values)-1], list[len(list)-1] = frac(2, 4), Reader{}
	g, code := impl.HabitOf(values, readings[:elements/2])
	same(t, "habit", g, code, Guess{}, impl.ErrInvalid)
	one, code := nearestReader(list, trial{wholes(1), []int64{1}})
	same(t, "nearest", one, code, nearest{}, impl.ErrInvalid)
	if impl.ReadersText(list) != "" || impl.ValidReader(reader(strings.Repeat("a", elements), 0, 1, true)) {
		t.Error("what is very long is told as if it were valid")
	}
}

// TestPromise1HabitsAreFoundAtTheSameTime asks for habits from several sides, and then waits until nothing tries any more.
func TestPromise1HabitsAreFoundAtTheSameTime(t *testing.T) {
	before := runtime.NumGoroutine()
	trials := ordinaryTrials()
	var all sync.WaitGroup
	for range 8 {
		all.Go(func() {
			for _, x := range trials {
				if trialCode(true, x.values, x.readings) != impl.OK {
					continue
				}
				habits := expectHabits(x.values, x.readings)
				g, code := impl.HabitOf(x.values, x.readings)
				n, countCode := impl.CountHabits(x.values, x.readings)
				if len(habits) > 0 && (code != impl.OK || g != habits[0]) || n != int64(len(habits)) || countCode != impl.OK {
					t.Errorf("%+v: got %v, one of %d, want the first one of %v", x, g, n, habits)
				}
			}
		})
	}
	all.Wait()
	waitUntilThereAre(t, before)
}

// onRead calls check with readers, values, and what has been read of them.
func onRead(check func(r Reader, value Frac, reading int64)) {
	random := rand.New(rand.NewSource(13))
	for _, r := range validReaders() {
		for _, value := range append(readValues(), someValues(random, 60)...) {
			if reading, code := impl.ReadingOf(r, value); code == impl.OK {
				check(r, value, reading)
			}
		}
	}
}

// TestPromise13AValueLiesInTheSpanOfItsReading corrects each reading.
func TestPromise13AValueLiesInTheSpanOfItsReading(t *testing.T) {
	held, ends := 0, 0
	onRead(func(r Reader, value Frac, reading int64) {
		spans, code := impl.CorrectReadings(r, []int64{reading})
		if code != impl.OK || len(spans) != 1 || !holds(spans[0], rat(value)) {
			t.Errorf("%+v: %v is read as %d, which is of %v", r, value, reading, spans)
			return
		}
		held++
		if value == spans[0].Low || value == spans[0].High {
			ends++
		}
		if widthOf(spans[0]).Cmp(big.NewRat(int64(r.Unit), 1)) != 0 {
			t.Errorf("%+v: %v is not as wide as the unit", r, spans[0])
		}
	})
	if held < 3000 || ends < 200 {
		t.Errorf("only %d were held, and %d at an end", held, ends)
	}
}

// TestPromise13SpansAreTheLeastOnes reads values at both ends of spans, just inside and just outside.
func TestPromise13SpansAreTheLeastOnes(t *testing.T) {
	for _, r := range validReaders() {
		for _, k := range []int64{0, 1, -1, 7, -33} {
			reading := k * int64(r.Unit)
			spans, code := impl.CorrectReadings(r, []int64{reading})
			if code != impl.OK {
				t.Fatalf("%+v: no span of %d", r, reading)
			}
			tiny := big.NewRat(1, 1000)
			isRead := func(at Frac, by int64) bool {
				value, code := toldRat(new(big.Rat).Add(rat(at), new(big.Rat).Mul(tiny, big.NewRat(by, 1))))
				got, readCode := impl.ReadingOf(r, value)
				return code == impl.OK && readCode == impl.OK && got == reading
			}
			low, high := spans[0].Low, spans[0].High
			if !isRead(low, 1) || !isRead(high, -1) || isRead(low, -1) || isRead(high, 1) || isRead(low, 0) != r.Up || isRead(high, 0) == r.Up {
				t.Errorf("%+v: the span of %d is not %v", r, reading, spans[0])
			}
		}
	}
}

// TestPromise13TheHabitOfAReaderExplains looks for the habit of a reader in what this one reads.
func TestPromise13TheHabitOfAReaderExplains(t *testing.T) {
	random := rand.New(rand.NewSource(131))
	same, other := 0, 0
	for _, r := range validReaders() {
		for range 12 {
			values := someValues(random, 1+random.Intn([]int{2, 8, 64}[random.Intn(3)]))
			readings, code := impl.ReadingsOf(r, values)
			explains, explainsCode := impl.Explains(guessOf(r), values, readings)
			if code != impl.OK || explainsCode != impl.OK || !explains {
				t.Errorf("%+v does not explain what it reads of %v: %v", r, values, readings)
				continue
			}
			who, _ := impl.WhoRead([]Reader{reader("nobody", -r.Bias, 21-r.Unit, !r.Up), r}, values, readings)
			near, hits, _ := impl.NearestReader([]Reader{r, exampleReader()}, values, readings)
			count, _ := impl.CountHabits(values, readings)
			if !slices.Contains(who, 1) || near != 0 || hits != int64(len(values)) || count < 1 {
				t.Errorf("%+v has read %v as %v, and is not found by %v, %d with %d, %d", r, values, readings, who, near, hits, count)
			}
			g, code := impl.HabitOf(values, readings)
			again, againCode := impl.ReadingsOf(reader("a", g.Bias, g.Unit, g.Up), values)
			sameList(t, []any{r, g, values}, again, againCode, readings, impl.OK)
			if g == guessOf(r) {
				same++
			} else if other++; code != impl.OK || g.Unit > r.Unit {
				t.Errorf("%+v has read %v as %v, which %v explains", r, values, readings, g)
			}
		}
	}
	if same < 300 || other < 300 {
		t.Errorf("%d times it was the same habit, %d times another one", same, other)
	}
}

// isPartOf reports whether a list is what is left of another one, in its order.
func isPartOf(part, list []int64) bool {
	for _, n := range list {
		if len(part) > 0 && part[0] == n {
			part = part[1:]
		}
	}
	return len(part) == 0
}

// TestPromise14MoreThanHalfIsLeft leaves readings out with all times.
func TestPromise14MoreThanHalfIsLeft(t *testing.T) {
	least, fewer := 0, 0
	for _, readings := range ordinaryLists() {
		before := 0
		for times := int64(1); times <= 100; times++ {
			left, code := impl.LeaveOut(readings, times)
			if code != impl.OK || 2*len(left) <= len(readings) || !isPartOf(left, readings) {
				t.Errorf("%v: with times %d, %v is left", readings, times, left)
			}
			if len(left) == len(readings)/2+1 {
				least++
			}
			if len(left) < before {
				t.Errorf("%v: with times %d, %v is left, and more with less", readings, times, left)
			}
			if before = len(left); before < len(readings) {
				fewer++
			}
			// What is left is left alone, if nothing else could be left out any more.
			if len(left) > len(readings)/2+1 {
				scatter, _ := impl.ScatterOf(left)
				limit := new(big.Rat).Mul(rat(scatter), big.NewRat(times, 1))
				if slices.ContainsFunc(distancesFrom(left), func(d Frac) bool { return rat(d).Cmp(limit) > 0 }) {
					t.Errorf("%v: with times %d, %v is left, with one that is too far", readings, times, left)
				}
			}
		}
	}
	if least < 1000 || fewer < 2000 {
		t.Errorf("%d times just more than half was left, and %d times not all", least, fewer)
	}
}

// TestPromise17ReadersTogetherHoldTheValue has the same value read by several readers.
func TestPromise17ReadersTogetherHoldTheValue(t *testing.T) {
	random := rand.New(rand.NewSource(17))
	valid := validReaders()
	narrower := 0
	for range 3000 {
		value := append(someValues(random, 1), readValues()...)[random.Intn(20)%(1+random.Intn(20))]
		var list []Reader
		var readings []int64
		for range 1 + random.Intn(12) {
			r := valid[random.Intn(len(valid))]
			if reading, code := impl.ReadingOf(r, value); code == impl.OK {
				list, readings = append(list, r), append(readings, reading)
			}
		}
		if len(list) == 0 {
			continue
		}
		s, code := impl.ValueFrom(list, readings)
		if code != impl.OK || !holds(s, rat(value)) {
			t.Errorf("%+v read %v as %v, and together as %v", list, value, readings, s)
			continue
		}
		for i, r := range list {
			spans, _ := impl.CorrectReadings(r, readings[i:i+1])
			if !holds(spans[0], rat(s.Low)) || !holds(spans[0], rat(s.High)) {
				t.Errorf("%+v: %v goes beyond %v, of %d", list, s, spans[0], i)
			}
			if widthOf(s).Cmp(widthOf(spans[0])) < 0 {
				narrower++
			}
		}
	}
	if narrower < 3000 {
		t.Errorf("only %d times it was narrower", narrower)
	}
}
