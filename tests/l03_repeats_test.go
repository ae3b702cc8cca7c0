package tests

import (
	"math"
	"math/big"
	"math/rand"
	"testing"

	"loop.example/g01254/impl"
)

// series is an angle that is repeated from a start.
type series struct{ start, angle int64 }

// found is what is found of an angle that has been repeated, with the circles, or the times.
type found struct {
	mean Frac
	n    int64
}

func repeatingCode(d Disk, s series, times, unit int64) int64 {
	if code := readingCode(d, unit, s.start, s.angle); code != impl.OK {
		return code
	}
	if times < 1 || times > 200 {
		return impl.ErrRange
	}
	return impl.OK
}

// expectRepeated tries all numbers of circles that there can be, the greatest one first.
func expectRepeated(d Disk, s series, times, unit int64) (found, int64) {
	if code := repeatingCode(d, s, times, unit); code != impl.OK {
		return found{}, code
	}
	end := s.start
	for range times {
		end = (end + s.angle) % circle
	}
	turn := expectTurnFrom(expectRead(d, s.start, unit), expectRead(d, end, unit))
	circles, best := int64(0), int64(math.MaxInt64)
	for n := times + 2; n >= -2; n-- {
		away := turn + n*circle - times*s.angle
		if away = max(away, -away); away < best {
			circles, best = n, away
		}
	}
	value, code := toldRat(big.NewRat(turn+circles*circle, times))
	return found{value, circles}, code
}

// expectBest compares all means with the angle.
func expectBest(d Disk, s series, most, unit int64) (found, int64) {
	if code := repeatingCode(d, s, most, unit); code != impl.OK {
		return found{}, code
	}
	var best found
	var least *big.Rat
	for times := int64(1); times <= most; times++ {
		m, _ := expectRepeated(d, s, times, unit)
		away := new(big.Rat).Sub(rat(m.mean), big.NewRat(s.angle, 1))
		if away.Abs(away); least == nil || away.Cmp(least) < 0 {
			best, least = found{m.mean, times}, away
		}
	}
	return best, impl.OK
}

func checkRepeats(t *testing.T, d Disk, s series, times, unit int64) {
	t.Helper()
	want, wantCode := expectRepeated(d, s, times, unit)
	value, circles, code := impl.RepeatAngle(d, s.start, s.angle, times, unit)
	same(t, []any{"repeat", d, s, times, unit}, found{value, circles}, code, want, wantCode)
}

func checkBest(t *testing.T, d Disk, s series, times, unit int64) {
	t.Helper()
	want, wantCode := expectBest(d, s, times, unit)
	best, value, code := impl.BestRepeats(d, s.start, s.angle, times, unit)
	same(t, []any{"best", d, s, times, unit}, found{value, best}, code, want, wantCode)
}

func someSeries() []series {
	list := []series{
		{0, 0}, {0, 1}, {0, 7}, {0, 100000}, {5, half}, {0, half - 1}, {0, half + 1}, {circle - 1, 1}, {0, circle - 1}, {circle - 1, circle - 1}, {half, quarter}, {123456, 777777}, {1, 1800},
	}
	for i, n := range noAngles() {
		list = append(list, series{n, 5}, series{5, n}, series{n, noAngles()[(i+1)%len(noAngles())]})
	}
	return list
}

func TestRepeatAngle(t *testing.T) {
	counts := []int64{1, 2, 3, 17, 199, 200, 0, -1, 201, -200, math.MaxInt64, math.MinInt64, 1<<32 + 1}
	for i, d := range append(validDisks(), invalidDisks()...) {
		for k, s := range someSeries() {
			for _, unit := range []int64{units()[(i+k)%len(units())], noUnits()[(i+k)%len(noUnits())]} {
				checkRepeats(t, d, s, counts[(i+2*k)%len(counts)], unit)
				checkRepeats(t, d, s, int64(1+(i+7*k)%200), unit)
			}
		}
	}
}

func TestBestRepeats(t *testing.T) {
	random := rand.New(rand.NewSource(33))
	counts := []int64{1, 2, 5, 0, -1, 201, math.MaxInt64, math.MinInt64}
	for i, d := range append(validDisks(), invalidDisks()...) {
		for k, s := range someSeries() {
			checkBest(t, d, s, counts[(i+k)%len(counts)], units()[(i+3*k)%len(units())])
			checkBest(t, d, s, counts[(i+k)%len(counts)], noUnits()[(i+k)%len(noUnits())])
		}
		checkBest(t, d, series{random.Int63n(circle), random.Int63n(circle)}, 1+random.Int63n(60), 1+random.Int63n(100))
		checkBest(t, d, series{random.Int63n(circle), random.Int63n(4000)}, 1+random.Int63n(60), 3600)
	}
	for i, d := range validDisks()[:24] {
		checkBest(t, d, series{random.Int63n(circle), random.Int63n(circle)}, 200, units()[i%len(units())])
	}
}

func TestRepeatAngleByHand(t *testing.T) {
	for _, c := range []struct {
		d           Disk
		s           series
		times, unit int64
		want        found
		code        int64
	}{
		{disk(0), series{0, 100000}, 20, 1, found{whole(100000), 2}, impl.OK}, {disk(0), series{0, 100000}, 1, 1, found{whole(100000), 0}, impl.OK}, {disk(0), series{1295999, 1}, 1, 1, found{whole(1), 0}, impl.OK},
		{disk(0), series{0, 0}, 200, 1, found{whole(0), 0}, impl.OK}, {disk(0), series{7, 1295999}, 200, 1, found{whole(1295999), 200}, impl.OK}, {disk(0), series{0, 648000}, 1, 1, found{whole(648000), 0}, impl.OK},
		{disk(0), series{0, 648000}, 3, 1, found{whole(648000), 1}, impl.OK}, {disk(0), series{0, 648001}, 1, 1, found{whole(648001), 1}, impl.OK}, {disk(0), series{648000, 648000}, 1, 1, found{whole(648000), 0}, impl.OK},
		// What has been rounded, divided by the times.
		{disk(0), series{0, 1}, 200, 3600, found{whole(0), 0}, impl.OK}, {disk(0), series{0, 9}, 200, 3600, found{whole(18), 0}, impl.OK}, {disk(0), series{0, 1295999}, 1, 3600, found{whole(1296000), 1}, impl.OK},
		{disk(0), series{0, 5}, 3, 10, found{frac(20, 3), 0}, impl.OK}, {disk(0), series{0, 1295995}, 3, 10, found{frac(3887990, 3), 3}, impl.OK}, {disk(0), series{5, 2}, 2, 10, found{whole(0), 0}, impl.OK},
		{disk(0, 40, 0, -40), series{0, 324000}, 1, 1, found{whole(324040), 0}, impl.OK}, {disk(0, 40, 0, -40), series{0, 324000}, 3, 1, found{frac(971960, 3), 1}, impl.OK}, {disk(0, 40, 0, -40), series{324000, 324000}, 2, 1, found{whole(323960), 0}, impl.OK},
		{Disk{Faults: []int16{0}, North: 30}, series{0, 648000}, 1, 1, found{whole(647940), 0}, impl.OK}, {Disk{Faults: []int16{0}, North: 30}, series{648000, 648000}, 1, 1, found{whole(648060), 1}, impl.OK},
		{disk(5), series{0, 0}, 9, 1, found{whole(0), 0}, impl.OK}, {disk(1, 0), series{0, 324000}, 1, 1, found{whole(324000), 0}, impl.OK},
		{disk(0), series{0, 7}, 201, 1, found{}, impl.ErrRange}, {disk(0), series{0, 7}, 0, 1, found{}, impl.ErrRange}, {disk(0), series{0, 7}, 1, 0, found{}, impl.ErrRange}, {disk(0), series{0, 7}, 1, 3601, found{}, impl.ErrRange},
		{disk(), series{0, 7}, 0, 0, found{}, impl.ErrInvalid}, {disk(0), series{-1, 7}, 201, 1, found{}, impl.ErrInvalid}, {disk(0), series{0, 1296000}, 1, 0, found{}, impl.ErrInvalid}, {disk(0), series{0, math.MinInt64}, 0, 1, found{}, impl.ErrInvalid},
	} {
		value, circles, code := impl.RepeatAngle(c.d, c.s.start, c.s.angle, c.times, c.unit)
		same(t, []any{c.d, c.s, c.times, c.unit}, found{value, circles}, code, c.want, c.code)
	}
}

func TestBestRepeatsByHand(t *testing.T) {
	for _, c := range []struct {
		d          Disk
		s          series
		most, unit int64
		want       found
		code       int64
	}{
		{disk(0), series{0, 7}, 5, 2, found{whole(7), 2}, impl.OK}, {disk(0), series{0, 7}, 1, 2, found{whole(8), 1}, impl.OK}, {disk(0), series{0, 7}, 2, 2, found{whole(7), 2}, impl.OK},
		// The first one of several that are as good: all of them, or those that are off by as much in both directions.
		{disk(0), series{0, 100000}, 200, 1, found{whole(100000), 1}, impl.OK}, {disk(0), series{0, 0}, 200, 3600, found{whole(0), 1}, impl.OK}, {disk(0), series{0, 7}, 200, 2, found{whole(7), 2}, impl.OK},
		{disk(0), series{5, 3}, 2, 10, found{whole(0), 1}, impl.OK}, {disk(0), series{0, 4}, 2, 10, found{whole(5), 2}, impl.OK}, {disk(0), series{5, 5}, 3, 10, found{whole(5), 2}, impl.OK},
		{disk(0), series{0, 1}, 200, 3600, found{whole(0), 1}, impl.OK}, {disk(0), series{0, 9}, 200, 3600, found{whole(0), 1}, impl.OK}, {disk(0), series{0, 18}, 200, 3600, found{whole(18), 200}, impl.OK}, {disk(0), series{0, 18}, 199, 3600, found{frac(3600, 199), 199}, impl.OK},
		{disk(0, 40, 0, -40), series{0, 324000}, 200, 1, found{whole(324000), 2}, impl.OK}, {disk(0, 40, 0, -40), series{324000, 324000}, 3, 1, found{frac(971960, 3), 3}, impl.OK},
		{disk(0), series{0, 7}, 0, 1, found{}, impl.ErrRange}, {disk(0), series{0, 7}, 201, 1, found{}, impl.ErrRange}, {disk(0), series{0, 7}, 5, 0, found{}, impl.ErrRange}, {disk(0), series{0, 7}, 5, 3601, found{}, impl.ErrRange},
		{disk(), series{0, 7}, 0, 0, found{}, impl.ErrInvalid}, {disk(0), series{circle, 7}, 0, 1, found{}, impl.ErrInvalid}, {disk(0), series{0, -1}, 5, 0, found{}, impl.ErrInvalid}, {disk(0), series{math.MaxInt64, math.MinInt64}, 5, 1, found{}, impl.ErrInvalid},
	} {
		best, value, code := impl.BestRepeats(c.d, c.s.start, c.s.angle, c.most, c.unit)
		same(t, []any{c.d, c.s, c.most, c.unit}, found{value, best}, code, c.want, c.code)
	}
}
