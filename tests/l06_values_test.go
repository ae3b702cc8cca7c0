package tests

import (
	"math"
	"math/big"
	"math/rand"
	"testing"

	"loop.example/g01254/impl"
)

func expectMeanDifference(a, b []int64) (Frac, int64) {
	if len(a) != len(b) || readingsCode(a) != impl.OK || readingsCode(b) != impl.OK {
		return Frac{}, impl.ErrRange
	}
	sum := new(big.Rat)
	for i := range a {
		sum.Add(sum, big.NewRat(a[i], 1)).Sub(sum, big.NewRat(b[i], 1))
	}
	return toldRat(sum.Quo(sum, big.NewRat(int64(len(a)), 1)))
}

func TestMeanDifference(t *testing.T) {
	told := map[int64]int{}
	lists := append(ordinaryLists(), wrongLists()...)
	for i, a := range lists {
		for k, b := range lists {
			if len(a) != len(b) && (3*i+k)%7 != 0 {
				continue
			}
			got, code := impl.MeanDifference(a, b)
			want, wantCode := expectMeanDifference(a, b)
			same(t, []any{a, b}, got, code, want, wantCode)
			told[code]++
		}
	}
	enough(t, told, 200, impl.OK, impl.ErrRange)
}

func TestMeanDifferenceByHand(t *testing.T) {
	for _, c := range []struct {
		a, b []int64
		want Frac
		code int64
	}{
		{[]int64{3, 5}, []int64{1, 2}, frac(5, 2), impl.OK}, {[]int64{1, 2}, []int64{3, 5}, frac(-5, 2), impl.OK}, {[]int64{7}, []int64{7}, whole(0), impl.OK}, {[]int64{1, 2, 3}, []int64{3, 2, 0}, frac(1, 3), impl.OK}, {[]int64{-4, 4}, []int64{4, -4}, whole(0), impl.OK},
		{repeated(int64(mostReading), 64), repeated(int64(-mostReading), 64), whole(2 * mostReading), impl.OK}, {repeated(int64(-mostReading), 63), append(repeated(int64(mostReading), 62), mostReading-1), frac(1-126*mostReading, 63), impl.OK}, {append(repeated(int64(mostReading), 63), mostReading-1), repeated(int64(-mostReading), 64), frac(128*mostReading-1, 64), impl.OK},
		{[]int64{1, 2}, []int64{1}, Frac{}, impl.ErrRange}, {[]int64{1}, []int64{1, 2}, Frac{}, impl.ErrRange}, {nil, nil, Frac{}, impl.ErrRange}, {[]int64{1}, nil, Frac{}, impl.ErrRange}, {nil, []int64{1}, Frac{}, impl.ErrRange}, {rising64(65), rising64(65), Frac{}, impl.ErrRange}, {rising64(64), rising64(65), Frac{}, impl.ErrRange}, {rising64(65), rising64(64), Frac{}, impl.ErrRange},
		{[]int64{mostReading + 1}, []int64{1}, Frac{}, impl.ErrRange}, {[]int64{1}, []int64{mostReading + 1}, Frac{}, impl.ErrRange}, {[]int64{1, -mostReading - 1}, []int64{1, 2}, Frac{}, impl.ErrRange}, {[]int64{1, 2}, []int64{1, -mostReading - 1}, Frac{}, impl.ErrRange}, {[]int64{math.MinInt64}, []int64{math.MinInt64}, Frac{}, impl.ErrRange}, {[]int64{math.MaxInt64}, []int64{math.MinInt64}, Frac{}, impl.ErrRange},
	} {
		got, code := impl.MeanDifference(c.a, c.b)
		same(t, c, got, code, c.want, c.code)
	}
}

// spanRead goes from half a unit below what was there to half a unit above it.
func spanRead(g Guess, reading int64) (low, high *big.Rat) {
	there, half := big.NewRat(reading-int64(g.Bias), 1), big.NewRat(int64(g.Unit), 2)
	return new(big.Rat).Sub(there, half), new(big.Rat).Add(there, half)
}

func expectCorrect(r Reader, readings []int64) ([]Span, int64) {
	if !isReader(r) {
		return nil, impl.ErrInvalid
	}
	if code := readingsCode(readings); code != impl.OK {
		return nil, code
	}
	var spans []Span
	for _, n := range readings {
		if n%int64(r.Unit) != 0 {
			return nil, impl.ErrState
		}
		s, _ := toldSpan(spanRead(guessOf(r), n))
		spans = append(spans, s)
	}
	return spans, impl.OK
}

// multiplesOf returns multiples of a unit near readings.
func multiplesOf(unit int16, readings []int64) []int64 {
	var list []int64
	for _, n := range readings {
		list = append(list, n/int64(unit)*int64(unit))
	}
	return list
}

func TestCorrectReadings(t *testing.T) {
	told := map[int64]int{}
	lists := append(ordinaryLists(), wrongLists()...)
	check := func(r Reader, readings []int64) {
		got, code := impl.CorrectReadings(r, readings)
		want, wantCode := expectCorrect(r, readings)
		sameList(t, []any{r, readings}, got, code, want, wantCode)
		told[code]++
	}
	for i, r := range append(validReaders(), invalidReaders()...) {
		for k := i % 9; k < len(lists); k += 9 {
			readings := lists[k]
			check(r, readings)
			if isReader(r) && readingsCode(readings) == impl.OK {
				readings = multiplesOf(r.Unit, readings)
				check(r, readings)
				readings[len(readings)-1]++
				check(r, readings)
			}
		}
	}
	enough(t, told, 300, impl.OK, impl.ErrInvalid, impl.ErrRange, impl.ErrState)
}

func TestCorrectReadingsByHand(t *testing.T) {
	r := exampleReader()
	for _, c := range []struct {
		r        Reader
		readings []int64
		want     []Span
		code     int64
	}{
		{r, []int64{15}, []Span{span(frac(23, 2), frac(33, 2))}, impl.OK}, {r, []int64{0, -5, 15}, []Span{span(frac(-7, 2), frac(3, 2)), span(frac(-17, 2), frac(-7, 2)), span(frac(23, 2), frac(33, 2))}, impl.OK}, {reader("a", 1, 5, false), []int64{15}, []Span{span(frac(23, 2), frac(33, 2))}, impl.OK},
		{reader("a", 0, 2, true), []int64{4}, []Span{between(3, 5)}, impl.OK}, {reader("a", 0, 1, true), []int64{4}, []Span{span(frac(7, 2), frac(9, 2))}, impl.OK}, {reader("a", -3, 20, true), []int64{-20}, []Span{between(-27, -7)}, impl.OK}, {reader("a", -3, 19, false), []int64{-19}, []Span{span(frac(-51, 2), frac(-13, 2))}, impl.OK},
		{reader("a", -50, 20, true), []int64{mostReading}, []Span{between(mostReading+40, mostReading+60)}, impl.OK}, {reader("a", 50, 20, true), []int64{-mostReading}, []Span{between(-mostReading-60, -mostReading-40)}, impl.OK}, {reader("a", -50, 1, true), []int64{mostReading}, []Span{span(frac(2*mostReading+99, 2), frac(2*mostReading+101, 2))}, impl.OK},
		{reader("a", 0, 1, true), repeated(int64(0), 64), repeated(span(frac(-1, 2), frac(1, 2)), 64), impl.OK}, {reader("a", 0, 1, true), repeated(int64(0), 65), nil, impl.ErrRange}, {reader("a", 0, 7, true), repeated(int64(1), 65), nil, impl.ErrRange}, {r, nil, nil, impl.ErrRange}, {r, []int64{}, nil, impl.ErrRange}, {r, []int64{7, mostReading + 5}, nil, impl.ErrRange}, {r, []int64{mostReading + 5}, nil, impl.ErrRange}, {r, []int64{math.MinInt64}, nil, impl.ErrRange},
		{r, []int64{7}, nil, impl.ErrState}, {r, []int64{15, 14}, nil, impl.ErrState}, {r, []int64{-1, 15}, nil, impl.ErrState}, {reader("a", 0, 2, true), []int64{-3}, nil, impl.ErrState}, {reader("a", 1, 2, true), []int64{2}, []Span{between(0, 2)}, impl.OK}, {reader("a", 1, 2, true), []int64{3}, nil, impl.ErrState}, {reader("a", 0, 3, true), []int64{mostReading}, nil, impl.ErrState}, {reader("a", 0, 3, true), []int64{999999}, []Span{span(frac(1999995, 2), frac(2000001, 2))}, impl.OK},
		{reader("a", 51, 5, true), []int64{15}, nil, impl.ErrInvalid}, {reader("", 1, 5, true), nil, nil, impl.ErrInvalid}, {reader("a", 1, 0, true), []int64{7}, nil, impl.ErrInvalid}, {reader("a", 1, 21, true), []int64{math.MaxInt64}, nil, impl.ErrInvalid}, {Reader{}, rising64(65), nil, impl.ErrInvalid},
	} {
		got, code := impl.CorrectReadings(c.r, c.readings)
		sameList(t, c, got, code, c.want, c.code)
	}
}

func expectValue(list []Reader, readings []int64) (Span, int64) {
	if !areReaders(list) {
		return Span{}, impl.ErrInvalid
	}
	if len(list) > 12 || len(list) != len(readings) || readingsCode(readings) != impl.OK {
		return Span{}, impl.ErrRange
	}
	for i, r := range list {
		if readings[i]%int64(r.Unit) != 0 {
			return Span{}, impl.ErrState
		}
	}
	low, high := spanRead(guessOf(list[0]), readings[0])
	for i, r := range list {
		one, other := spanRead(guessOf(r), readings[i])
		low, high = highOf(low, one), lowOf(high, other)
	}
	if low.Cmp(high) > 0 {
		return Span{}, impl.ErrProof
	}
	return toldSpan(low, high)
}

func TestValueFrom(t *testing.T) {
	random := rand.New(rand.NewSource(62))
	told, touching := map[int64]int{}, 0
	check := func(list []Reader, readings []int64) {
		got, code := impl.ValueFrom(list, readings)
		want, wantCode := expectValue(list, readings)
		same(t, []any{list, readings}, got, code, want, wantCode)
		told[code]++
		if code == impl.OK && got.Low == got.High {
			touching++
		}
	}
	valid, invalid := validReaders(), invalidReaders()
	for range 1500 {
		n := 1 + random.Intn([]int{2, 3, 12}[random.Intn(3)])
		value := someValues(random, 1)[0]
		var list []Reader
		var readings []int64
		for range n {
			r := valid[random.Intn(len(valid))]
			reading, _ := expectReadingOf(r, value)
			list, readings = append(list, r), append(readings, reading)
		}
		check(list, readings)
		i := random.Intn(n)
		for _, by := range []int64{int64(list[i].Unit), -int64(list[i].Unit), 5 * int64(list[i].Unit), 1} {
			readings[i] += by
			check(list, readings)
			readings[i] -= by
		}
		check(list, readings[:n-1])
		check(list[:n-1], readings)
		readings[i] = noReadings()[random.Intn(len(noReadings()))]
		check(list, readings)
		list[random.Intn(n)] = invalid[random.Intn(len(invalid))]
		check(list, readings)
	}
	enough(t, told, 300, impl.OK, impl.ErrInvalid, impl.ErrRange, impl.ErrState, impl.ErrProof)
	if touching < 20 {
		t.Errorf("only %d touch", touching)
	}
}

func TestValueFromByHand(t *testing.T) {
	ann, bob, cai := exampleReader(), reader("bob", 0, 1, true), reader("cai", 2, 1, false)
	two, ten := reader("two", 0, 2, true), reader("ten", 0, 10, true)
	for name, c := range map[string]struct {
		list     []Reader
		readings []int64
		want     Span
		code     int64
	}{
		"three": {[]Reader{ann, bob, cai}, []int64{15, 12, 14}, span(frac(23, 2), frac(25, 2)), impl.OK}, "one": {[]Reader{ann}, []int64{15}, span(frac(23, 2), frac(33, 2)), impl.OK}, "two that overlap": {[]Reader{ann, ten}, []int64{15, 10}, span(frac(23, 2), whole(15)), impl.OK}, "one in the other": {[]Reader{ten, bob}, []int64{10, 12}, span(frac(23, 2), frac(25, 2)), impl.OK}, "both the same": {[]Reader{bob, bob}, []int64{12, 12}, span(frac(23, 2), frac(25, 2)), impl.OK},
		"that touch": {[]Reader{bob, bob}, []int64{12, 13}, span(frac(25, 2), frac(25, 2)), impl.OK}, "that touch, back": {[]Reader{bob, bob}, []int64{13, 12}, span(frac(25, 2), frac(25, 2)), impl.OK}, "that touch, below 0": {[]Reader{two, two}, []int64{-4, -2}, between(-3, -3), impl.OK}, "three that touch": {[]Reader{two, bob, two}, []int64{2, 3, 4}, between(3, 3), impl.OK},
		"apart": {[]Reader{bob, bob}, []int64{12, 14}, Span{}, impl.ErrProof}, "nearly touching": {[]Reader{bob, cai}, []int64{12, 16}, Span{}, impl.ErrProof}, "the last one apart": {[]Reader{ann, bob, cai}, []int64{15, 12, 16}, Span{}, impl.ErrProof}, "the first one apart": {[]Reader{ann, bob, cai}, []int64{30, 12, 14}, Span{}, impl.ErrProof}, "each two together, and not all": {[]Reader{two, two, two, two}, []int64{2, 4, 2, 6}, Span{}, impl.ErrProof},
		"with another bias": {[]Reader{bob, reader("dan", 50, 1, true)}, []int64{0, 50}, span(frac(-1, 2), frac(1, 2)), impl.OK}, "biases apart": {[]Reader{bob, reader("dan", -50, 1, true)}, []int64{0, 50}, Span{}, impl.ErrProof},
		"none": {nil, nil, Span{}, impl.ErrRange}, "no readings": {[]Reader{ann}, nil, Span{}, impl.ErrRange}, "no readers": {nil, []int64{15}, Span{}, impl.ErrRange}, "one reading too few": {[]Reader{ann, bob}, []int64{15}, Span{}, impl.ErrRange}, "one reading too many": {[]Reader{ann}, []int64{15, 15}, Span{}, impl.ErrRange}, "twelve": {repeated(bob, 12), repeated(int64(7), 12), span(frac(13, 2), frac(15, 2)), impl.OK}, "thirteen": {repeated(bob, 13), repeated(int64(7), 13), Span{}, impl.ErrRange}, "many": {repeated(bob, 65), repeated(int64(7), 65), Span{}, impl.ErrRange}, "thirteen, with a reading that is no multiple": {repeated(ann, 13), repeated(int64(7), 13), Span{}, impl.ErrRange},
		"no multiple": {[]Reader{ann}, []int64{7}, Span{}, impl.ErrState}, "the last one no multiple, of those apart": {[]Reader{bob, bob, ann}, []int64{12, 99, 7}, Span{}, impl.ErrState}, "the first one no multiple": {[]Reader{ann, bob, bob}, []int64{7, 12, 99}, Span{}, impl.ErrState}, "a multiple of another one's unit": {[]Reader{ann, two}, []int64{4, 5}, Span{}, impl.ErrState},
		"too great": {[]Reader{bob}, []int64{mostReading + 1}, Span{}, impl.ErrRange}, "too great, and no multiple": {[]Reader{ann, bob}, []int64{7, -mostReading - 1}, Span{}, impl.ErrRange}, "the greatest": {[]Reader{bob}, []int64{mostReading}, span(frac(2*mostReading-1, 2), frac(2*mostReading+1, 2)), impl.OK}, "the least integer": {[]Reader{bob}, []int64{math.MinInt64}, Span{}, impl.ErrRange},
		"a bad reader": {[]Reader{ann, reader("B", 0, 1, true)}, []int64{15, 12}, Span{}, impl.ErrInvalid}, "a bad reader, with no readings": {[]Reader{{}}, nil, Span{}, impl.ErrInvalid}, "a bad reader, and too many": {append(repeated(bob, 13), reader("bob", 0, 0, true)), repeated(int64(7), 14), Span{}, impl.ErrInvalid}, "a bad reader, and no multiple": {[]Reader{ann, reader("b", -51, 1, true)}, []int64{7, math.MaxInt64}, Span{}, impl.ErrInvalid},
	} {
		got, code := impl.ValueFrom(c.list, c.readings)
		same(t, name, got, code, c.want, c.code)
	}
}
