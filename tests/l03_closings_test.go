package tests

import (
	"math"
	"math/big"
	"math/rand"
	"slices"
	"testing"

	"loop.example/g01254/impl"
)

func isSector(n int64) bool { return n >= 1 && n <= circle }

// closingCode returns the error of sectors.
func closingCode(sectors []int64) int64 {
	if len(sectors) == 0 || len(sectors) > 72 || slices.ContainsFunc(sectors, func(n int64) bool { return !isSector(n) }) {
		return impl.ErrRange
	}
	return impl.OK
}

func expectClosing(sectors []int64) int64 {
	sum := big.NewInt(-circle)
	for _, s := range sectors {
		sum.Add(sum, big.NewInt(s))
	}
	return sum.Int64()
}

func expectShared(sectors []int64) []int64 {
	closing, n := expectClosing(sectors), int64(len(sectors))
	taken := func(i int) int64 { return floorRat(big.NewRat(int64(i)*closing, n)).Int64() }
	var shared []int64
	for i, s := range sectors {
		shared = append(shared, s-(taken(i+1)-taken(i)))
	}
	return shared
}

// expectFaults says of each mark how far it is from where it should be.
func expectFaults(sectors []int64) ([]int64, int64) {
	if code := closingCode(sectors); code != impl.OK {
		return nil, code
	}
	if !slices.Contains(divisions(), len(sectors)) {
		return nil, impl.ErrState
	}
	var faults []int64
	at := int64(0)
	for i, s := range expectShared(sectors) {
		faults = append(faults, at-int64(i*(circle/len(sectors))))
		at += s
	}
	return faults, impl.OK
}

// sectorLists has sectors that close, and others with closings of both signs, also such that are not divisible.
func sectorLists() [][]int64 {
	random := rand.New(rand.NewSource(31))
	lists := [][]int64{
		{circle}, {1}, {circle - 1}, {half, half}, {1, circle}, {circle, circle}, {1, 1}, {circle, 1, circle}, {1, 2, 3, 4, 5, 6, 7},
		repeated(int64(circle/72), 72), repeated(int64(circle), 72), repeated(int64(1), 72), repeated(int64(circle/71), 71), repeated(int64(17999), 72), repeated(int64(18001), 72),
	}
	for n := 1; n <= 72; n++ {
		for _, size := range []int64{1, 40, 9000} {
			sectors := repeated(int64(circle/n), n)
			for i := range sectors {
				sectors[i] = min(max(1, sectors[i]+random.Int63n(2*size+1)-size), circle)
			}
			lists = append(lists, sectors)
		}
	}
	return lists
}

func noSectorLists() [][]int64 {
	lists := [][]int64{nil, {}, repeated(int64(18000), 73), repeated(int64(1), 100)}
	for _, n := range []int64{0, -1, circle + 1, -circle, math.MaxInt64, math.MinInt64, math.MinInt64 + 1} {
		lists = append(lists, []int64{n}, []int64{n, half}, []int64{324000, 324000, 324000, n}, append(repeated(int64(18000), 71), n))
	}
	return lists
}

func TestClosings(t *testing.T) {
	for _, sectors := range append(sectorLists(), noSectorLists()...) {
		code := closingCode(sectors)
		closing, shared := int64(0), []int64(nil)
		if code == impl.OK {
			closing, shared = expectClosing(sectors), expectShared(sectors)
		}
		got, gotCode := impl.ClosingOf(sectors)
		same(t, sectors, got, gotCode, closing, code)
		list, listCode := impl.ShareClosing(sectors)
		sameList(t, []any{"shared", sectors}, list, listCode, shared, code)
		faults, code := expectFaults(sectors)
		list, listCode = impl.FaultsFrom(sectors)
		sameList(t, []any{"faults", sectors}, list, listCode, faults, code)
	}
}

func TestShareClosingByHand(t *testing.T) {
	for _, c := range []struct {
		sectors []int64
		closing int64
		shared  []int64
		code    int64
	}{
		{[]int64{324001, 324001, 324001, 324001}, 4, []int64{324000, 324000, 324000, 324000}, impl.OK},
		{[]int64{648000, 647990}, -10, []int64{648005, 647995}, impl.OK}, {[]int64{648000, 647995}, -5, []int64{648003, 647997}, impl.OK}, {[]int64{648000, 648005}, 5, []int64{647998, 648002}, impl.OK},
		{[]int64{432000, 432000, 432001}, 1, []int64{432000, 432000, 432000}, impl.OK}, {[]int64{432000, 432000, 431999}, -1, []int64{432001, 432000, 431999}, impl.OK},
		{[]int64{432000, 432000, 432002}, 2, []int64{432000, 431999, 432001}, impl.OK}, {[]int64{432000, 432000, 431998}, -2, []int64{432001, 432001, 431998}, impl.OK},
		{[]int64{1296000}, 0, []int64{1296000}, impl.OK}, {[]int64{1}, -1295999, []int64{1296000}, impl.OK},
		// What is left of a sector can be less than 1.
		{[]int64{1, 1296000, 1296000}, 1296001, []int64{-431999, 864000, 863999}, impl.OK},
		{nil, 0, nil, impl.ErrRange}, {[]int64{}, 0, nil, impl.ErrRange}, {[]int64{0}, 0, nil, impl.ErrRange}, {[]int64{1296001}, 0, nil, impl.ErrRange}, {[]int64{648000, -1}, 0, nil, impl.ErrRange},
		{[]int64{math.MinInt64, math.MaxInt64}, 0, nil, impl.ErrRange}, {repeated(int64(18000), 73), 0, nil, impl.ErrRange}, {repeated(int64(18000), 72), 0, repeated(int64(18000), 72), impl.OK},
	} {
		closing, code := impl.ClosingOf(c.sectors)
		same(t, c.sectors, closing, code, c.closing, c.code)
		shared, code := impl.ShareClosing(c.sectors)
		sameList(t, c.sectors, shared, code, c.shared, c.code)
	}
}

func TestFaultsFromByHand(t *testing.T) {
	for _, c := range []struct {
		sectors []int64
		want    []int64
		code    int64
	}{
		{[]int64{324010, 324000, 323990, 324000}, []int64{0, 10, 10, 0}, impl.OK}, {[]int64{324011, 324001, 323991, 324001}, []int64{0, 10, 10, 0}, impl.OK},
		{[]int64{648003, 647997}, []int64{0, 3}, impl.OK}, {[]int64{648000, 647995}, []int64{0, 3}, impl.OK}, {[]int64{647990, 648010}, []int64{0, -10}, impl.OK},
		{[]int64{432000, 432000, 431999}, []int64{0, 1, 1}, impl.OK}, {[]int64{1296000}, []int64{0}, impl.OK}, {[]int64{1}, []int64{0}, impl.OK},
		{[]int64{1, 2, 3, 4, 5, 6, 7}, nil, impl.ErrState}, {repeated(int64(18254), 71), nil, impl.ErrState}, {repeated(int64(18000), 72), repeated(int64(0), 72), impl.OK},
		{nil, nil, impl.ErrRange}, {[]int64{}, nil, impl.ErrRange}, {[]int64{1, 2, 3, 4, 5, 6, 0}, nil, impl.ErrRange}, {repeated(int64(1), 73), nil, impl.ErrRange}, {repeated(int64(1), 75), nil, impl.ErrRange},
	} {
		got, code := impl.FaultsFrom(c.sectors)
		sameList(t, c.sectors, got, code, c.want, c.code)
	}
}

func expectSectors(d Disk, n, unit int64) ([]int64, int64) {
	if code := readingCode(d, unit); code != impl.OK {
		return nil, code
	}
	if n == 1 || !slices.Contains(divisions(), int(n)) {
		return nil, impl.ErrRange
	}
	var sectors []int64
	for i := range n {
		from, to := i*(circle/n), (i+1)*(circle/n)%circle
		turn := expectTurnFrom(expectRead(d, from, unit), expectRead(d, to, unit))
		if turn < 1 {
			turn += circle
		}
		sectors = append(sectors, turn)
	}
	return sectors, impl.OK
}

func TestSectorsOf(t *testing.T) {
	counts := []int64{2, 3, 4, 5, 60, 64, 72, 0, 1, 7, 11, 71, 73, 75, 80, -1, -2, -72, circle, math.MaxInt64, math.MinInt64, 1<<32 + 2}
	for i, d := range append(validDisks(), invalidDisks()...) {
		for k, n := range counts {
			for _, unit := range []int64{1, units()[(i+k)%len(units())], noUnits()[(i+k)%len(noUnits())]} {
				want, wantCode := expectSectors(d, n, unit)
				got, code := impl.SectorsOf(d, n, unit)
				sameList(t, []any{d, n, unit}, got, code, want, wantCode)
			}
		}
	}
	for n := int64(-3); n <= 150; n++ {
		want, wantCode := expectSectors(disk(5, -7, 9), n, 1)
		got, code := impl.SectorsOf(disk(5, -7, 9), n, 1)
		sameList(t, n, got, code, want, wantCode)
	}
}

func TestSectorsOfByHand(t *testing.T) {
	for _, c := range []struct {
		d       Disk
		n, unit int64
		want    []int64
		code    int64
	}{
		{disk(0, 40, 0, -40), 4, 1, []int64{324040, 323960, 323960, 324040}, impl.OK}, {disk(0, 40, 0, -40), 2, 1, []int64{648000, 648000}, impl.OK},
		// Half a circle and more: a turn back, and the whole circle.
		{Disk{Faults: []int16{0}, North: 30}, 2, 1, []int64{647940, 648060}, impl.OK}, {Disk{Faults: []int16{0}, North: -30}, 2, 1, []int64{648060, 647940}, impl.OK}, {disk(0), 2, 1, []int64{648000, 648000}, impl.OK},
		{disk(0, 1), 2, 1, []int64{648001, 647999}, impl.OK}, {disk(0), 3, 1, []int64{432000, 432000, 432000}, impl.OK}, {disk(0), 5, 3600, []int64{259200, 259200, 259200, 259200, 259200}, impl.OK},
		{disk(0), 3, 1000, []int64{432000, 432000, 432000}, impl.OK}, {disk(-600), 2, 1, []int64{648000, 648000}, impl.OK}, {disk(0), 72, 1, repeated(int64(18000), 72), impl.OK},
		{disk(0), 1, 1, nil, impl.ErrRange}, {disk(0), 0, 1, nil, impl.ErrRange}, {disk(0), 7, 1, nil, impl.ErrRange}, {disk(0), 73, 1, nil, impl.ErrRange}, {disk(0), 75, 1, nil, impl.ErrRange}, {disk(0), -2, 1, nil, impl.ErrRange},
		{disk(0), 2, 0, nil, impl.ErrRange}, {disk(0), 2, 3601, nil, impl.ErrRange}, {disk(), 7, 0, nil, impl.ErrInvalid}, {disk(601), 2, 1, nil, impl.ErrInvalid}, {disk(0), math.MinInt64, 1, nil, impl.ErrRange},
	} {
		got, code := impl.SectorsOf(c.d, c.n, c.unit)
		sameList(t, []any{c.d, c.n, c.unit}, got, code, c.want, c.code)
	}
}
