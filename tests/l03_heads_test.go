package tests

import (
	"math"
	"math/big"
	"slices"
	"testing"

	"loop.example/g01254/impl"
)

// two is what two heads read.
type two struct{ first, second int64 }

func TestHeads(t *testing.T) {
	onHeads(func(d Disk, angle, unit int64) {
		wantCode := readingCode(d, unit, angle)
		var want two
		if wantCode == impl.OK {
			want = two{expectRead(d, angle, unit), expectRead(d, (angle+half)%circle, unit)}
		}
		one, code := impl.ReadHead(d, angle, unit)
		same(t, []any{"one", d, angle, unit}, one, code, want.first, wantCode)
		first, second, code := impl.ReadTwo(d, angle, unit)
		same(t, []any{"two", d, angle, unit}, two{first, second}, code, want, wantCode)
	})
}

func TestReadHeadByHand(t *testing.T) {
	for _, c := range []struct {
		d           Disk
		angle, unit int64
		want        int64
	}{
		{disk(0), 15, 10, 20}, {disk(0), 14, 10, 10}, {disk(0), 16, 10, 20}, {disk(0), 5, 10, 10}, {disk(0), 7, 2, 8}, {disk(0), 7, 1, 7},
		// Halves of a unit, of both signs: -5 is read as 0, and -15 as -10.
		{disk(-5), 0, 10, 0}, {disk(-6), 0, 10, 1295990}, {disk(-15), 0, 10, 1295990}, {disk(-16), 0, 10, 1295980}, {disk(-1), 0, 2, 0}, {disk(-3), 0, 2, 1295998},
		{disk(0, 1), 324000, 1, 324001}, {disk(0, -1), 324000, 1, 324000}, {disk(0, -3), 324000, 1, 323999}, {disk(0, 1), 323999, 1, 323999}, {disk(0, -1), 324001, 1, 324000}, {disk(0, -1), 323999, 1, 323999},
		{Disk{Faults: []int16{0}, North: -1}, 0, 2, 0}, {Disk{Faults: []int16{0}, East: 1}, 162000, 1, 162001}, {Disk{Faults: []int16{0}, East: -1}, 162000, 1, 162000},
		// The greatest unit, and the ends of the circle.
		{disk(0), 1800, 3600, 3600}, {disk(0), 1799, 3600, 0}, {disk(0), 1294200, 3600, 0}, {disk(0), 1294199, 3600, 1292400}, {disk(0), 1295999, 3600, 0}, {disk(0), 1295999, 1, 1295999},
		{disk(600), 1295999, 1, 599}, {disk(600), 1295400, 1, 0}, {disk(600), 1295399, 1, 1295999}, {disk(-600), 0, 1, 1295400}, {disk(-600), 599, 1, 1295999}, {disk(-600), 600, 1, 0},
		{Disk{Faults: []int16{-600}, North: -600}, 0, 1, 1294800}, {Disk{Faults: []int16{600}, East: 600}, 324000, 1, 325200},
		// A unit that does not divide the circle: 1296001 is a multiple of 7, and is wrapped then.
		{disk(0), 1295999, 7, 1}, {disk(0), 1295997, 7, 1295994}, {disk(0), 1295998, 7, 1}, {disk(-4), 0, 7, 1295993}, {disk(0), 1295999, 3599, 1295640},
		{disk(0, 40, 0, -40), 162000, 1, 162020}, {disk(0, 40, 0, -40), 162001, 1, 162021}, {Disk{Faults: []int16{0}, East: 30}, 324000, 1, 324030},
	} {
		got, code := impl.ReadHead(c.d, c.angle, c.unit)
		same(t, []any{c.d, c.angle, c.unit}, got, code, c.want, impl.OK)
	}
}

func TestReadHeadErrorsInOrder(t *testing.T) {
	for _, c := range []struct {
		d           Disk
		angle, unit int64
		want        int64
	}{
		{disk(0), 0, 0, impl.ErrRange}, {disk(0), 0, 3601, impl.ErrRange}, {disk(0), 0, -1, impl.ErrRange}, {disk(0), 0, math.MinInt64, impl.ErrRange}, {disk(0), 0, math.MaxInt64, impl.ErrRange},
		{disk(), 0, 0, impl.ErrInvalid}, {disk(0), -1, 0, impl.ErrInvalid}, {disk(0), circle, 3601, impl.ErrInvalid}, {disk(math.MinInt16), 0, 1, impl.ErrInvalid}, {disk(0), math.MinInt64, 1, impl.ErrInvalid},
	} {
		got, code := impl.ReadHead(c.d, c.angle, c.unit)
		same(t, []any{c.d, c.angle, c.unit}, got, code, 0, c.want)
		first, second, code := impl.ReadTwo(c.d, c.angle, c.unit)
		same(t, []any{c.d, c.angle, c.unit}, two{first, second}, code, two{}, c.want)
	}
}

func TestReadTwoByHand(t *testing.T) {
	for _, c := range []struct {
		d           Disk
		angle, unit int64
		want        two
	}{
		{Disk{Faults: []int16{0}, East: 30}, 324000, 1, two{324030, 971970}}, {Disk{Faults: []int16{0}, East: 30}, 972000, 1, two{971970, 324030}},
		{disk(0), 0, 1, two{0, 648000}}, {disk(0), 648000, 1, two{648000, 0}}, {disk(0), 647999, 1, two{647999, 1295999}}, {disk(0), 1295999, 1, two{1295999, 647999}},
		{disk(0), 1295999, 3600, two{0, 648000}}, {disk(7, -9), 0, 1, two{7, 647991}}, {disk(7, -9), 648000, 1, two{647991, 7}},
		{disk(0), 15, 10, two{20, 648020}}, {Disk{Faults: []int16{-5}}, 0, 10, two{0, 648000}},
	} {
		first, second, code := impl.ReadTwo(c.d, c.angle, c.unit)
		same(t, []any{c.d, c.angle, c.unit}, two{first, second}, code, c.want, impl.OK)
	}
}

func TestMeanOfTwo(t *testing.T) {
	list := append(angles(), noAngles()...)
	for _, first := range list {
		for _, second := range list {
			want, code := Frac{}, int64(impl.ErrInvalid)
			if isAngle(first) && isAngle(second) {
				turn := expectTurnFrom(first, (second+half)%circle)
				want, code = toldRat(new(big.Rat).Add(big.NewRat(first, 1), big.NewRat(turn, 2)))
			}
			got, gotCode := impl.MeanOfTwo(first, second)
			same(t, two{first, second}, got, gotCode, want, code)
		}
	}
}

func TestMeanOfTwoByHand(t *testing.T) {
	for _, c := range []struct {
		first, second int64
		want          Frac
		code          int64
	}{
		{324030, 971970, whole(324000), impl.OK}, {0, 648000, whole(0), impl.OK}, {648000, 0, whole(648000), impl.OK}, {0, 648001, frac(1, 2), impl.OK},
		// The mean is not wrapped.
		{0, 647999, frac(-1, 2), impl.OK}, {0, 647990, whole(-5), impl.OK}, {1295999, 648001, whole(1296000), impl.OK}, {1295999, 648000, frac(2591999, 2), impl.OK},
		// Half a circle apart from what should be there, and a second more.
		{0, 0, whole(324000), impl.OK}, {1295999, 1295999, whole(1619999), impl.OK}, {0, 1, frac(-647999, 2), impl.OK}, {1, 0, frac(648001, 2), impl.OK}, {10, 11, frac(-647979, 2), impl.OK},
		{-1, 0, Frac{}, impl.ErrInvalid}, {0, -1, Frac{}, impl.ErrInvalid}, {0, 1296000, Frac{}, impl.ErrInvalid}, {1296000, 0, Frac{}, impl.ErrInvalid},
		{math.MinInt64, math.MaxInt64, Frac{}, impl.ErrInvalid}, {0, math.MinInt64, Frac{}, impl.ErrInvalid},
	} {
		got, code := impl.MeanOfTwo(c.first, c.second)
		same(t, two{c.first, c.second}, got, code, c.want, c.code)
	}
}

// wrong is the greatest error of a head, and where it is.
type wrong struct{ size, angle int64 }

func expectWorst(d Disk, list []int64, unit int64) (wrong, int64) {
	if code := readingCode(d, unit, list...); code != impl.OK {
		return wrong{}, code
	}
	if len(list) < 1 || len(list) > 72 {
		return wrong{}, impl.ErrRange
	}
	var all []wrong
	for _, angle := range list {
		turn := expectTurnFrom(angle, expectRead(d, angle, unit))
		all = append(all, wrong{max(turn, -turn), angle})
	}
	return slices.MaxFunc(all, func(a, b wrong) int { return int(a.size - b.size) }), impl.OK // the first one of several
}

func TestWorstHead(t *testing.T) {
	bad := []int64{0, 5, -1}
	lists := [][]int64{angles(), angles()[13:20], {0}, {1295999}, {648000, 0}, nil, {}, bad, noAngles(), repeated(int64(3), 72), repeated(int64(3), 73), append(repeated(int64(3), 72), -1)}
	for i, d := range append(validDisks(), invalidDisks()...) {
		for k, list := range lists {
			for _, unit := range []int64{units()[(i+k)%len(units())], noUnits()[(i+k)%len(noUnits())]} {
				want, wantCode := expectWorst(d, list, unit)
				size, angle, code := impl.WorstHead(d, list, unit)
				same(t, []any{d, list, unit}, wrong{size, angle}, code, want, wantCode)
			}
		}
	}
}

func TestWorstHeadByHand(t *testing.T) {
	four, all := disk(0, 40, 0, -40), make([]int64, 72)
	for i := range all {
		all[i] = int64(i) * 18000
	}
	for _, c := range []struct {
		d      Disk
		angles []int64
		unit   int64
		want   wrong
		code   int64
	}{
		{four, []int64{0, 162000, 324000}, 1, wrong{40, 324000}, impl.OK}, {four, []int64{972000, 324000}, 1, wrong{40, 972000}, impl.OK}, {four, []int64{324000, 972000}, 1, wrong{40, 324000}, impl.OK},
		{four, all, 1, wrong{40, 324000}, impl.OK}, {four, []int64{1295999}, 1, wrong{0, 1295999}, impl.OK}, {disk(0), []int64{9, 8, 7}, 1, wrong{0, 9}, impl.OK},
		{disk(0), []int64{7, 8, 9}, 10, wrong{3, 7}, impl.OK}, {disk(0), []int64{9, 4, 6}, 10, wrong{4, 4}, impl.OK}, {disk(0), []int64{1800, 1799}, 3600, wrong{1800, 1800}, impl.OK},
		// Errors are turns, also where a reading is on the other side of 0.
		{disk(600), []int64{1295999}, 1, wrong{600, 1295999}, impl.OK}, {disk(-600), []int64{0}, 1, wrong{600, 0}, impl.OK}, {disk(0), []int64{1294200}, 3600, wrong{1800, 1294200}, impl.OK},
		{disk(0), append(all, 0), 1, wrong{}, impl.ErrRange}, {disk(0), nil, 1, wrong{}, impl.ErrRange}, {disk(0), []int64{}, 1, wrong{}, impl.ErrRange}, {disk(0), []int64{0}, 0, wrong{}, impl.ErrRange},
		{disk(), nil, 0, wrong{}, impl.ErrInvalid}, {disk(0), append(all, circle), 0, wrong{}, impl.ErrInvalid}, {disk(0), []int64{0, math.MinInt64}, 1, wrong{}, impl.ErrInvalid},
	} {
		size, angle, code := impl.WorstHead(c.d, c.angles, c.unit)
		same(t, []any{c.d, c.angles, c.unit}, wrong{size, angle}, code, c.want, c.code)
	}
}
