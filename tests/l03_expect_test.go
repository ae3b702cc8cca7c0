package tests

import (
	"math"
	"math/big"
	"math/rand"
	"slices"
	"testing"

	"loop.example/g01254/impl"
)

// Disk is that of chapter 3, for shorter tests.
type Disk = impl.Disk

const (
	circle  = impl.Circle
	half    = circle / 2
	quarter = circle / 4
)

// disk returns one whose middle is not off.
func disk(faults ...int16) Disk { return Disk{Faults: faults} }

// divisions are all numbers of sectors of disks, found by trying.
func divisions() []int {
	var list []int
	for n := 1; n <= 72; n++ {
		if circle/n*n == circle {
			list = append(list, n)
		}
	}
	return list
}

// someDisk returns a disk with so many sectors, and with faults and offsets up to a size.
func someDisk(random *rand.Rand, n int, size int64) Disk {
	some := func() int64 { return random.Int63n(2*size+1) - size }
	d := Disk{Faults: make([]int16, n), East: some(), North: some()}
	for i := range d.Faults {
		d.Faults[i] = int16(some())
	}
	return d
}

// validDisks has disks with few and many sectors, without faults, and with the greatest ones.
func validDisks() []Disk {
	list := []Disk{
		disk(0), disk(600), disk(-600), disk(0, 40, 0, -40), disk(0, 1), disk(0, -1), disk(-600, 600), disk(600, -600, 600),
		{Faults: []int16{0}, East: 30}, {Faults: []int16{0}, East: -30}, {Faults: []int16{0}, North: 30}, {Faults: []int16{0}, North: -30},
		{Faults: []int16{0}, East: 600}, {Faults: []int16{0}, East: -600}, {Faults: []int16{0}, North: 600}, {Faults: []int16{0}, North: -600},
		{Faults: []int16{600}, East: 600, North: 600}, {Faults: []int16{-600}, East: -600, North: -600},
		{Faults: []int16{-600, -599, 17}, East: 600, North: -600}, {Faults: []int16{3, -7, 11, 0, -1}, East: -17, North: 1},
		disk(repeated(int16(0), 72)...), disk(repeated(int16(600), 72)...),
	}
	random := rand.New(rand.NewSource(3))
	for _, n := range divisions() {
		list = append(list, someDisk(random, n, 600), someDisk(random, n, 3))
	}
	return list
}

// invalidDisks has one reason for each disk not to be valid.
func invalidDisks() []Disk {
	list := []Disk{{}, {Faults: []int16{}}, {East: 1, North: 1}}
	for _, n := range []int{7, 11, 13, 14, 17, 19, 26, 28, 49, 63, 70, 71, 73, 75, 80, 81, 90, 96, 144, 1000, 1296} {
		list = append(list, disk(repeated(int16(0), n)...))
	}
	for _, f := range []int16{601, -601, 1000, -1000, math.MaxInt16, math.MinInt16, math.MinInt16 + 1} {
		list = append(list, disk(f), disk(0, f), disk(append(repeated(int16(0), 71), f)...))
	}
	for _, off := range []int64{601, -601, math.MaxInt64, math.MinInt64, math.MinInt64 + 1, 1 << 32, 1 << 16, -1 << 16} {
		list = append(list, Disk{Faults: []int16{0}, East: off}, Disk{Faults: []int16{0}, North: off}, Disk{Faults: []int16{0}, East: off, North: -off})
	}
	return list
}

// angles are at, beside and between the ends of quarters and sectors.
func angles() []int64 {
	list := []int64{5, 7, 15, 1800, 1799, 3599, 3600, 100000, 123456, 777777, 1234567, circle - 1800, circle - 1801}
	for _, n := range []int64{0, quarter / 2, quarter, circle / 3, half, 3 * quarter, circle / 72, 71 * (circle / 72)} {
		for _, by := range []int64{-2, -1, 0, 1, 2} {
			list = append(list, (n+by+circle)%circle)
		}
	}
	return list
}

func noAngles() []int64 {
	return []int64{-1, circle, circle + 1, -circle, 2 * circle, math.MaxInt64, math.MinInt64, math.MinInt64 + 1, 1 << 32}
}

// units are valid units of reading, among them those that do not divide the circle.
func units() []int64 { return []int64{1, 2, 3, 7, 10, 60, 1000, 3599, 3600} }

func noUnits() []int64 {
	return []int64{0, -1, 3601, -3600, math.MaxInt64, math.MinInt64, math.MinInt64 + 1, 1<<32 + 1}
}

func isAngle(n int64) bool { return n >= 0 && n <= circle-1 }

// wrapBig returns the angle that differs from n by whole circles: Mod is never negative.
func wrapBig(n *big.Int) int64 { return new(big.Int).Mod(n, big.NewInt(circle)).Int64() }

// expectTurnFrom turns by whole circles until the turn is short enough.
func expectTurnFrom(a, b int64) int64 {
	turn := b - a
	for turn > half {
		turn -= circle
	}
	for turn <= -half {
		turn += circle
	}
	return turn
}

func expectFault(d Disk, angle int64) *big.Rat {
	n := len(d.Faults)
	sectors := big.NewRat(angle*int64(n), circle)
	i := floorRat(sectors)
	part := new(big.Rat).Sub(sectors, new(big.Rat).SetInt(i))
	before, next := d.Faults[i.Int64()], d.Faults[(i.Int64()+1)%int64(n)]
	more := part.Mul(part, big.NewRat(int64(next)-int64(before), 1))
	return more.Add(more, big.NewRat(int64(before), 1))
}

// expectSwing folds the circle at a quarter ahead: the swing is greatest where this is half a circle.
func expectSwing(d Disk, angle int64) *big.Rat {
	swing := func(angle int64) int64 {
		away := (angle+quarter)%circle - half
		return quarter - max(away, -away)
	}
	return big.NewRat(d.East*swing(angle)+d.North*swing((angle+quarter)%circle), quarter)
}

// expectRead rounds in multiples of the unit.
func expectRead(d Disk, angle, unit int64) int64 {
	sum := new(big.Rat).Add(expectFault(d, angle), expectSwing(d, angle))
	sum.Add(sum, big.NewRat(angle, 1))
	sum.Quo(sum, big.NewRat(unit, 1))
	sum.Add(sum, big.NewRat(1, 2))
	return wrapBig(new(big.Int).Mul(floorRat(sum), big.NewInt(unit)))
}

// readingCode returns the first error of what a head reads.
func readingCode(d Disk, unit int64, angles ...int64) int64 {
	isNone := func(n int64) bool { return !isAngle(n) }
	if !impl.ValidDisk(d) || slices.ContainsFunc(angles, isNone) {
		return impl.ErrInvalid
	}
	if unit < 1 || unit > 3600 {
		return impl.ErrRange
	}
	return impl.OK
}

// sameList fails if a list and its code are not those that are expected.
func sameList[T comparable](t *testing.T, what any, got []T, code int64, want []T, wantCode int64) {
	t.Helper()
	if !slices.Equal(got, want) || code != wantCode {
		t.Errorf("%+v: got %v and %s, want %v and %s", what, got, impl.CodeName(code), want, impl.CodeName(wantCode))
	}
}

// onHeads calls check with disks, angles and units of all kinds.
func onHeads(check func(d Disk, angle, unit int64)) {
	places, steps := append(angles(), noAngles()...), append(units(), noUnits()...)
	for i, d := range append(validDisks(), invalidDisks()...) {
		for k, angle := range places {
			check(d, angle, units()[(i+k)%len(units())])
			check(d, angle, steps[(3*i+k)%len(steps)])
		}
	}
}
