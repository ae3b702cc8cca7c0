package tests

import (
	"math"
	"math/big"
	"slices"
	"strconv"
	"testing"

	"loop.example/g01254/impl"
)

func TestMediansAndScatters(t *testing.T) {
	told := map[int64]int{}
	onReadings(func(readings []int64) {
		got, code := impl.MedianOf(readings)
		want, wantCode := expectMedian(readings)
		same(t, readings, got, code, want, wantCode)
		got, code = impl.ScatterOf(readings)
		want, wantCode = expectScatter(readings)
		same(t, readings, got, code, want, wantCode)
		told[code]++
	})
	enough(t, told, 50, impl.OK, impl.ErrRange)
}

func TestMediansAndScattersByHand(t *testing.T) {
	for _, c := range []struct {
		readings        []int64
		median, scatter Frac
	}{
		{[]int64{5}, whole(5), whole(0)}, {[]int64{1, 2, 9}, whole(2), whole(1)}, {[]int64{9, 1, 2}, whole(2), whole(1)}, {[]int64{1, 2}, frac(3, 2), frac(1, 2)}, {[]int64{1, 3}, whole(2), whole(1)}, {[]int64{-1, -2}, frac(-3, 2), frac(1, 2)}, {[]int64{4, 1, 3, 2}, frac(5, 2), whole(1)},
		{[]int64{1, 2, 3, 90}, frac(5, 2), whole(1)}, {[]int64{0, 0, 0, 5}, whole(0), whole(0)}, {[]int64{0, 1, 5, 9}, whole(3), frac(5, 2)}, {[]int64{0, 1, 4, 8}, frac(5, 2), whole(2)}, {[]int64{0, 1, 2, 10}, frac(3, 2), whole(1)}, {[]int64{0, 2, 3, 10}, frac(5, 2), frac(3, 2)}, {[]int64{0, 4, 5, 7}, frac(9, 2), frac(3, 2)}, {[]int64{0, 1, 4, 6}, frac(5, 2), whole(2)}, {[]int64{0, 3, 4, 6, 6, 100}, whole(5), frac(3, 2)},
		{[]int64{mostReading, mostReading}, whole(mostReading), whole(0)}, {[]int64{-mostReading, mostReading}, whole(0), whole(mostReading)}, {[]int64{mostReading, mostReading - 1}, frac(2*mostReading-1, 2), frac(1, 2)}, {[]int64{-mostReading, -mostReading, mostReading}, whole(-mostReading), whole(0)}, {[]int64{-mostReading, -mostReading, mostReading, mostReading}, whole(0), whole(mostReading)}, {[]int64{-mostReading, -mostReading + 1, mostReading, mostReading}, frac(1, 2), frac(2*mostReading-1, 2)},
		{rising64(64), frac(63, 2), whole(16)}, {rising64(63), whole(31), whole(16)},
	} {
		got, code := impl.MedianOf(c.readings)
		same(t, c, got, code, c.median, impl.OK)
		got, code = impl.ScatterOf(c.readings)
		same(t, c, got, code, c.scatter, impl.OK)
	}
	for _, readings := range wrongLists() {
		got, code := impl.MedianOf(readings)
		same(t, readings, got, code, Frac{}, impl.ErrRange)
		got, code = impl.ScatterOf(readings)
		same(t, readings, got, code, Frac{}, impl.ErrRange)
	}
}

func allTimes() []int64 {
	return []int64{1, 2, 3, 5, 10, 50, 99, 100, 0, -1, 101, 102, -100, 200, math.MaxInt64, math.MinInt64, 1<<32 + 1}
}

func TestLeaveOut(t *testing.T) {
	told := map[int64]int{}
	none, some, most := 0, 0, 0
	onReadings(func(readings []int64) {
		for _, times := range allTimes() {
			got, code := impl.LeaveOut(readings, times)
			want, wantCode := expectLeaveOut(readings, times)
			sameList(t, []any{readings, times}, got, code, want, wantCode)
			told[code]++
			switch {
			case code != impl.OK:
			case len(got) == len(readings):
				none++
			case len(got) == len(readings)/2+1:
				most++
			default:
				some++
			}
		}
	})
	enough(t, told, 1000, impl.OK, impl.ErrRange)
	if none < 100 || some < 50 || most < 50 {
		t.Errorf("%d times none were left out, %d times some, and %d times as many as can be", none, some, most)
	}
}

func TestLeaveOutByHand(t *testing.T) {
	for name, c := range map[string]struct {
		readings []int64
		times    int64
		want     []int64
	}{
		"one": {[]int64{5}, 1, []int64{5}}, "two": {[]int64{5, 900}, 1, []int64{5, 900}}, "three": {[]int64{5, 900, 5}, 1, []int64{5, 5}}, "three alike": {[]int64{5, 5, 5}, 1, []int64{5, 5, 5}}, "the example": {[]int64{1, 2, 3, 90}, 3, []int64{1, 2, 3}}, "in their order": {[]int64{90, 3, 1, 2}, 3, []int64{3, 1, 2}},
		"just times the scatter": {[]int64{-1, -1, 0, 1, 3}, 3, []int64{-1, -1, 0, 1, 3}}, "more than that, twice": {[]int64{-1, -1, 0, 1, 3}, 2, []int64{-1, -1, 0}}, "just once the scatter": {[]int64{0, 2, 2, 4, 4, 0}, 1, []int64{0, 2, 2, 4, 4, 0}},
		"a hundred times": {[]int64{0, 1, 2, 3, 4, 102, 2}, 100, []int64{0, 1, 2, 3, 4, 102, 2}}, "more than a hundred times": {[]int64{0, 1, 2, 3, 4, 103, 2}, 100, []int64{0, 1, 2, 3, 4, 2}},
		"the first one of several": {[]int64{5, 0, 0, -5}, 1, []int64{0, 0, -5}}, "the first one, below": {[]int64{-5, 0, 0, 5}, 1, []int64{0, 0, 5}}, "the first one, in the middle": {[]int64{0, -5, 5, 0}, 1, []int64{0, 5, 0}}, "not the greatest one": {[]int64{0, 5, 0, -6}, 1, []int64{0, 5, 0}},
		"a scatter of 0": {[]int64{0, 0, 0, 0, 1, 0, -1}, 100, []int64{0, 0, 0, 0, 0}}, "a scatter of 0 for all": {[]int64{7, 7, 7, 7}, 1, []int64{7, 7, 7, 7}}, "a scatter that becomes 0": {[]int64{1, 0, 1, 0, 1, 0, 26, 0}, 50, []int64{0, 0, 1, 0, 0}}, "less than times the scatter": {[]int64{0, 0, 1, 1, 2, 3}, 3, []int64{0, 0, 1, 1, 2, 3}},
		"half at the most": {[]int64{0, 0, 0, 0, 100, 200, 300, 400}, 1, []int64{0, 0, 0, 0, 100}}, "half at the most, rounded down": {[]int64{0, 0, 0, 0, 0, 200, 300, 400, 500}, 1, []int64{0, 0, 0, 0, 0}}, "many with as few as can be": {[]int64{9, 0, 10, 0, 11, 0, 12, 0, 13, 0, 0}, 1, []int64{0, 0, 0, 0, 0, 0}},
		"anew": {[]int64{0, 1, 2, 3, 4, 30, 1000}, 10, []int64{0, 1, 2, 3, 4}}, "anew, from the other side": {[]int64{1000, 30, 4, 3, 2, 1, 0}, 10, []int64{4, 3, 2, 1, 0}},
		"from another scatter": {[]int64{0, 0, 0, 10, 10, 10, 10, 21}, 1, []int64{0, 10, 10, 10, 10}},
		"at both limits":       {[]int64{-mostReading, mostReading, 0, 1, -1}, 100, []int64{0, 1, -1}},
	} {
		got, code := impl.LeaveOut(c.readings, c.times)
		sameList(t, name, got, code, c.want, impl.OK)
	}
}

func TestLeaveOutErrors(t *testing.T) {
	for _, times := range []int64{0, 101, -1, math.MinInt64, math.MaxInt64} {
		for _, readings := range append(wrongLists(), []int64{1, 2, 3, 90}) {
			got, code := impl.LeaveOut(readings, times)
			sameList(t, []any{readings, times}, got, code, nil, impl.ErrRange)
		}
	}
	for _, times := range []int64{1, 3, 100} {
		for _, readings := range wrongLists() {
			got, code := impl.LeaveOut(readings, times)
			sameList(t, []any{readings, times}, got, code, nil, impl.ErrRange)
		}
	}
}

func TestTrimmedMean(t *testing.T) {
	told := map[int64]int{}
	onReadings(func(readings []int64) {
		n := int64(len(readings))
		for _, each := range []int64{0, 1, 2, n/2 - 1, n / 2, n/2 + 1, (n - 1) / 2, n, -1, -2, 32, math.MaxInt64, math.MinInt64, math.MinInt64 + 1, 1 << 62, 1<<62 + 1, 1 << 63 >> 1, -1 << 62} {
			got, code := impl.TrimmedMean(readings, each)
			want, wantCode := expectTrimmedMean(readings, each)
			same(t, []any{readings, each}, got, code, want, wantCode)
			told[code]++
		}
	})
	enough(t, told, 500, impl.OK, impl.ErrRange)
}

func TestTrimmedMeanByHand(t *testing.T) {
	for _, c := range []struct {
		readings []int64
		each     int64
		want     Frac
		code     int64
	}{
		{[]int64{1, 2, 4, 100}, 0, frac(107, 4), impl.OK}, {[]int64{1, 2, 4, 100}, 1, whole(3), impl.OK}, {[]int64{100, 4, 1, 2}, 1, whole(3), impl.OK}, {[]int64{1, 2, 4, 100}, 2, Frac{}, impl.ErrRange}, {[]int64{1, 2, 4, 100}, -1, Frac{}, impl.ErrRange},
		{[]int64{5, -3, 1}, 0, whole(1), impl.OK}, {[]int64{5, -3, 2}, 1, whole(2), impl.OK}, {[]int64{5, -3, 1}, 2, Frac{}, impl.ErrRange}, {[]int64{7}, 0, whole(7), impl.OK}, {[]int64{7}, 1, Frac{}, impl.ErrRange}, {[]int64{7, 8}, 0, frac(15, 2), impl.OK}, {[]int64{7, 8}, 1, Frac{}, impl.ErrRange},
		{[]int64{3, 3, 3, 9, 9}, 1, whole(5), impl.OK}, {[]int64{9, 3, 9, 3, 3}, 2, whole(3), impl.OK}, {[]int64{1, 1, 2}, 0, frac(4, 3), impl.OK}, {nil, 0, Frac{}, impl.ErrRange}, {nil, -1, Frac{}, impl.ErrRange}, {[]int64{}, 0, Frac{}, impl.ErrRange},
		{repeated(int64(mostReading), 64), 0, whole(mostReading), impl.OK}, {repeated(int64(-mostReading), 64), 31, whole(-mostReading), impl.OK}, {rising64(64), 31, frac(63, 2), impl.OK}, {rising64(64), 32, Frac{}, impl.ErrRange}, {rising64(63), 31, whole(31), impl.OK}, {rising64(63), 32, Frac{}, impl.ErrRange}, {rising64(65), 0, Frac{}, impl.ErrRange}, {rising64(65), 1, Frac{}, impl.ErrRange},
		{append(repeated(int64(mostReading), 63), mostReading-1), 0, frac(64*mostReading-1, 64), impl.OK}, {append(repeated(int64(-mostReading), 62), 1-mostReading), 0, frac(1-63*mostReading, 63), impl.OK}, {[]int64{1, mostReading + 1, 2}, 1, Frac{}, impl.ErrRange}, {[]int64{math.MinInt64, 1, 2}, 1, Frac{}, impl.ErrRange},
	} {
		got, code := impl.TrimmedMean(c.readings, c.each)
		same(t, c, got, code, c.want, c.code)
	}
}

// expectDigits takes the last letter of each number.
func expectDigits(readings []int64) ([10]int64, int64) {
	var digits [10]int64
	if code := readingsCode(readings); code != impl.OK {
		return digits, code
	}
	for _, n := range readings {
		text := strconv.FormatInt(n, 10)
		digits[text[len(text)-1]-'0']++
	}
	return digits, impl.OK
}

func expectLiked(readings []int64) (liked, int64) {
	digits, code := expectDigits(readings)
	if code != impl.OK {
		return liked{}, code
	}
	for digit, times := range digits {
		if times == slices.Max(digits[:]) {
			return liked{int64(digit), times - floorRat(rat(Frac{P: int64(len(readings)), Q: 10})).Int64()}, impl.OK
		}
	}
	return liked{}, -1
}

func TestDigits(t *testing.T) {
	told := map[int64]int{}
	onReadings(func(readings []int64) {
		got, code := impl.LastDigits(readings)
		want, wantCode := expectDigits(readings)
		same(t, readings, got, code, want, wantCode)
		one, code := likedDigit(readings)
		wantOne, wantCode := expectLiked(readings)
		same(t, readings, one, code, wantOne, wantCode)
		told[code]++
	})
	enough(t, told, 50, impl.OK, impl.ErrRange)
}

func TestDigitsByHand(t *testing.T) {
	for _, c := range []struct {
		readings []int64
		digits   [10]int64
		liked    liked
	}{
		{[]int64{12, -22, 5}, [10]int64{2: 2, 5: 1}, liked{2, 2}}, {[]int64{0}, [10]int64{1}, liked{0, 1}}, {[]int64{-1}, [10]int64{1: 1}, liked{1, 1}}, {[]int64{-9}, [10]int64{9: 1}, liked{9, 1}}, {[]int64{-10, 10, -1000000, 1000000}, [10]int64{4}, liked{0, 4}}, {[]int64{-7, -17, -999997, 3}, [10]int64{7: 3, 3: 1}, liked{7, 3}}, {[]int64{-3, 7}, [10]int64{3: 1, 7: 1}, liked{3, 1}},
		{[]int64{9, 8, 8, 9, 1}, [10]int64{1: 1, 8: 2, 9: 2}, liked{8, 2}}, {[]int64{9, 5, 0}, [10]int64{0: 1, 5: 1, 9: 1}, liked{0, 1}}, {rising64(9), [10]int64{1, 1, 1, 1, 1, 1, 1, 1, 1, 0}, liked{0, 1}}, {rising64(10), [10]int64{1, 1, 1, 1, 1, 1, 1, 1, 1, 1}, liked{0, 0}}, {rising64(19), [10]int64{2, 2, 2, 2, 2, 2, 2, 2, 2, 1}, liked{0, 1}}, {rising64(20), [10]int64{2, 2, 2, 2, 2, 2, 2, 2, 2, 2}, liked{0, 0}}, {rising64(21), [10]int64{3, 2, 2, 2, 2, 2, 2, 2, 2, 2}, liked{0, 1}},
		{repeated(int64(4), 9), [10]int64{4: 9}, liked{4, 9}}, {repeated(int64(4), 10), [10]int64{4: 10}, liked{4, 9}}, {repeated(int64(4), 19), [10]int64{4: 19}, liked{4, 18}}, {repeated(int64(-4), 20), [10]int64{4: 20}, liked{4, 18}}, {repeated(int64(-16), 64), [10]int64{6: 64}, liked{6, 58}},
	} {
		got, code := impl.LastDigits(c.readings)
		same(t, c.readings, got, code, c.digits, impl.OK)
		one, code := likedDigit(c.readings)
		same(t, c.readings, one, code, c.liked, impl.OK)
	}
	for _, readings := range wrongLists() {
		got, code := impl.LastDigits(readings)
		same(t, readings, got, code, [10]int64{}, impl.ErrRange)
		one, code := likedDigit(readings)
		same(t, readings, one, code, liked{}, impl.ErrRange)
	}
}

// expectUnit takes the greatest common divisor of sizes.
func expectUnit(readings []int64) int64 {
	unit := new(big.Int)
	for _, n := range readings {
		unit.GCD(nil, nil, unit, new(big.Int).Abs(big.NewInt(n)))
	}
	return unit.Int64()
}

func TestUnitSeen(t *testing.T) {
	onReadings(func(readings []int64) {
		want, wantCode := int64(0), readingsCode(readings)
		if wantCode == impl.OK {
			want = expectUnit(readings)
		}
		got, code := impl.UnitSeen(readings)
		same(t, readings, got, code, want, wantCode)
	})
}

func TestUnitSeenByHand(t *testing.T) {
	for _, c := range []struct {
		readings []int64
		want     int64
	}{
		{[]int64{10, 25, 5}, 5}, {[]int64{0}, 0}, {[]int64{0, 0, 0}, 0}, {[]int64{7}, 7}, {[]int64{-7}, 7}, {[]int64{0, -6}, 6}, {[]int64{-6, 0}, 6}, {[]int64{0, 6, 0, 9, 0}, 3}, {[]int64{-10, -25}, 5}, {[]int64{10, -25}, 5}, {[]int64{-25, 10}, 5}, {[]int64{12, 18, 8}, 2}, {[]int64{12, 18, 7}, 1}, {[]int64{12, 12}, 12}, {[]int64{1, 0}, 1}, {[]int64{-1}, 1},
		{[]int64{mostReading, -mostReading}, mostReading}, {[]int64{mostReading, 999999}, 1}, {[]int64{-mostReading, 0}, mostReading}, {repeated(int64(-60), 64), 60}, {append(repeated(int64(60), 63), -45), 15},
	} {
		got, code := impl.UnitSeen(c.readings)
		same(t, c.readings, got, code, c.want, impl.OK)
	}
	for _, readings := range wrongLists() {
		got, code := impl.UnitSeen(readings)
		same(t, readings, got, code, 0, impl.ErrRange)
	}
}
