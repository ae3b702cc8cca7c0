package tests

import (
	"math"
	"math/big"
	"math/rand"
	"slices"
	"testing"

	"loop.example/g01254/impl"
)

// TestPromise1EveryFunctionOfCirclesReturns calls every function of chapter 3 twice, with arguments of all kinds.
func TestPromise1EveryFunctionOfCirclesReturns(t *testing.T) {
	disks := append(validDisks(), invalidDisks()...)
	numbers := slices.Concat(angles(), noAngles(), []int64{2, 72, 73, 200, 201, 601, -601})
	lists := append(sectorLists(), noSectorLists()...)
	for i, d := range disks {
		list := lists[i%len(lists)]
		twice(t, func() any { return impl.ValidDisk(d) })
		twice(t, func() any { return impl.SameDisk(d, disks[(i+1)%len(disks)]) })
		twice(t, func() any { return results(impl.ClosingOf(list)) })
		twice(t, func() any { return results(impl.ShareClosing(list)) })
		twice(t, func() any { return results(impl.FaultsFrom(list)) })
		for k, a := range numbers {
			b, n := numbers[(i+3*k)%len(numbers)], numbers[(5*i+k)%len(numbers)]
			for _, unit := range []int64{7, n} {
				twice(t, func() any { return results(impl.ReadHead(d, a, unit)) })
				twice(t, func() any { return triple(impl.ReadTwo(d, a, unit)) })
				twice(t, func() any { return triple(impl.WorstHead(d, []int64{a, b}, unit)) })
				twice(t, func() any { return results(impl.SectorsOf(d, n, unit)) })
				twice(t, func() any { return triple(impl.RepeatAngle(d, a, b, n, unit)) })
				twice(t, func() any { return triple(impl.BestRepeats(d, a, b, min(n, 72), unit)) })
			}
			twice(t, func() any { return results(impl.FaultAt(d, a)) })
			twice(t, func() any { return results(impl.SwingAt(d, a)) })
			twice(t, func() any { return results(impl.WrapAngle(a)) })
			twice(t, func() any { return results(impl.TurnFrom(a, b)) })
			twice(t, func() any { return results(impl.MeanOfTwo(a, b)) })
			twice(t, func() any { return impl.AngleText(a) })
			twice(t, func() any { return results(impl.ReadAngle(impl.AngleText(a) + impl.AngleText(b))) })
		}
	}
}

func triple[S, T any](one S, two T, code int64) any { return []any{one, two, code} }

func TestPromise1NoDiskIsModified(t *testing.T) {
	for _, old := range append(validDisks(), invalidDisks()...) {
		long := append(slices.Clone(old.Faults), 77, -78, 79)
		before := slices.Clone(long)
		d := Disk{Faults: long[:len(old.Faults)], East: old.East, North: old.North}
		places := append(angles()[:20], 1, 2, 3)
		beforePlaces := slices.Clone(places)
		impl.ValidDisk(d)
		impl.SameDisk(d, d)
		for _, angle := range angles() {
			impl.FaultAt(d, angle)
			impl.SwingAt(d, angle)
			impl.ReadHead(d, angle, 1)
			impl.ReadTwo(d, angle, 1)
			impl.RepeatAngle(d, angle, 123456, 20, 1)
			impl.BestRepeats(d, angle, 123456, 20, 1)
		}
		impl.WorstHead(d, places[:20], 1)
		impl.SectorsOf(d, 72, 1)
		if !slices.Equal(long, before) || !slices.Equal(places, beforePlaces) {
			t.Errorf("%+v: the faults have become %v, and the angles %v", old, long, places)
		}
	}
}

// TestPromise1SectorsShareNoMemory writes into all that lists have room for.
func TestPromise1SectorsShareNoMemory(t *testing.T) {
	for _, old := range sectorLists() {
		long := append(slices.Clone(old), 77, -78, 79)
		before := slices.Clone(long)
		sectors := long[:len(old)]
		impl.ClosingOf(sectors)
		for _, build := range []func() ([]int64, int64){
			func() ([]int64, int64) { return impl.ShareClosing(sectors) },
			func() ([]int64, int64) { return impl.FaultsFrom(sectors) },
			func() ([]int64, int64) { return impl.SectorsOf(disk(0, 40, 0, -40), 4, 1) },
		} {
			one, _ := build()
			two, code := build()
			want := slices.Clone(two)
			all := one[:cap(one)]
			for i := range all {
				all[i] = -999
			}
			sameList(t, "another one", two, code, want, code)
			sameList(t, "the argument", long, code, before, code)
		}
	}
}

func TestPromise1NilListsOfCirclesAreEmpty(t *testing.T) {
	for _, list := range [][]int64{nil, make([]int64, 0, 5)} {
		closing, code := impl.ClosingOf(list)
		same(t, "closing", closing, code, 0, impl.ErrRange)
		shared, code := impl.ShareClosing(list)
		sameList(t, "shared", shared, code, nil, impl.ErrRange)
		faults, code := impl.FaultsFrom(list)
		sameList(t, "faults", faults, code, nil, impl.ErrRange)
		size, angle, code := impl.WorstHead(disk(0), list, 1)
		same(t, "worst", wrong{size, angle}, code, wrong{}, impl.ErrRange)
	}
	none, empty := Disk{}, Disk{Faults: make([]int16, 0, 5)}
	if impl.ValidDisk(none) || impl.ValidDisk(empty) || !impl.SameDisk(none, empty) || !impl.SameDisk(empty, none) {
		t.Error("no faults and an empty list of them are not the same")
	}
}

func TestPromise1VeryLongListsOfCircles(t *testing.T) {
	const elements = 1000000
	long := disk(make([]int16, elements)...)
	if impl.ValidDisk(long) || !impl.SameDisk(long, disk(make([]int16, elements)...)) || impl.SameDisk(long, disk(make([]int16, elements-1)...)) {
		t.Error("a very long disk is not told as it is")
	}
	got, code := impl.ReadHead(long, 0, 1)
	same(t, "read", got, code, 0, impl.ErrInvalid)
	list := repeated(int64(1), elements)
	size, angle, code := impl.WorstHead(disk(0), list, 1)
	same(t, "worst", wrong{size, angle}, code, wrong{}, impl.ErrRange)
	shared, code := impl.ShareClosing(list)
	sameList(t, "shared", shared, code, nil, impl.ErrRange)
	faults, code := impl.FaultsFrom(list)
	sameList(t, "faults", faults, code, nil, impl.ErrRange)
	list[elements-1] = math.MinInt64
	size, angle, code = impl.WorstHead(disk(0), list, 0)
	same(t, "worst", wrong{size, angle}, code, wrong{}, impl.ErrInvalid)
}

// TestPromise5ATurnLeadsToTheOtherAngle turns from angles by what is told.
func TestPromise5ATurnLeadsToTheOtherAngle(t *testing.T) {
	random := rand.New(rand.NewSource(5))
	list := angles()
	for range 100 {
		list = append(list, random.Int63n(circle))
	}
	for _, a := range list {
		for _, b := range list {
			turn, code := impl.TurnFrom(a, b)
			to, codeTwo := impl.WrapAngle(a + turn)
			if code != impl.OK || codeTwo != impl.OK || to != b || 2*turn <= -circle || 2*turn > circle {
				t.Errorf("from %d to %d: got %d, which leads to %d", a, b, turn, to)
			}
		}
	}
}

// TestPromise5FaultsLieBetweenThoseOfTheirMarks compares them with both marks, and is one of them at a mark.
func TestPromise5FaultsLieBetweenThoseOfTheirMarks(t *testing.T) {
	random := rand.New(rand.NewSource(55))
	for _, d := range validDisks() {
		n := int64(len(d.Faults))
		for i := range n {
			one, two := whole(int64(d.Faults[i])), whole(int64(d.Faults[(i+1)%n]))
			if one.P > two.P {
				one, two = two, one
			}
			for _, behind := range []int64{0, 1, random.Int63n(circle / n), circle/n - 1} {
				fault, code := impl.FaultAt(d, i*(circle/n)+behind)
				in, inCode := impl.InSpan(span(one, two), fault)
				if code != impl.OK || inCode != impl.OK || !in {
					t.Errorf("%+v: the fault %d behind the mark %d is %v", d, behind, i, fault)
				}
				if behind == 0 && fault != whole(int64(d.Faults[i])) {
					t.Errorf("%+v: the fault at the mark %d is %v", d, i, fault)
				}
			}
		}
	}
}

// TestPromise5HeadsReadWithinTheUnit compares what is read with what is there.
func TestPromise5HeadsReadWithinTheUnit(t *testing.T) {
	read := 0
	onHeads(func(d Disk, angle, unit int64) {
		got, code := impl.ReadHead(d, angle, unit)
		if code != impl.OK {
			return
		}
		read++
		fault, _ := impl.FaultAt(d, angle)
		swing, _ := impl.SwingAt(d, angle)
		// Twice by how much more is read, less whole circles, is at most the unit.
		away := new(big.Rat).Sub(big.NewRat(got-angle, 1), new(big.Rat).Add(rat(fault), rat(swing)))
		circles := floorRat(new(big.Rat).Add(new(big.Rat).Quo(away, big.NewRat(circle, 1)), big.NewRat(1, 2)))
		away.Sub(away, new(big.Rat).Mul(new(big.Rat).SetInt(circles), big.NewRat(circle, 1)))
		if away.Mul(away, big.NewRat(2, 1)); away.Abs(away).Cmp(big.NewRat(unit, 1)) > 0 || !isAngle(got) {
			t.Errorf("%+v: %d is read as %d with the unit %d", d, angle, got, unit)
		}
	})
	if read < 1000 {
		t.Errorf("only %d were read", read)
	}
}

// TestTwoHeadsReadWithoutTheMiddle compares both heads together with the angle, on disks whose only error is the middle.
func TestTwoHeadsReadWithoutTheMiddle(t *testing.T) {
	random := rand.New(rand.NewSource(56))
	for range 200 {
		d := someDisk(random, 1, 600)
		d.Faults[0] = 0
		for _, angle := range angles() {
			unit := []int64{1, 2, 10, 60}[random.Intn(4)]
			first, second, code := impl.ReadTwo(d, angle, unit)
			mean, codeTwo := impl.MeanOfTwo(first, second)
			if code != impl.OK || codeTwo != impl.OK {
				t.Fatalf("%+v: %d has no mean", d, angle)
			}
			// Each head is off by half a unit at most, and so is the mean; near the ends of the circle it can be a circle away.
			away := new(big.Rat).Sub(rat(mean), big.NewRat(angle, 1))
			for _, by := range []int64{circle, -circle} {
				if other := new(big.Rat).Add(away, big.NewRat(by, 1)); new(big.Rat).Abs(other).Cmp(new(big.Rat).Abs(away)) < 0 {
					away = other
				}
			}
			if away.Abs(away).Cmp(big.NewRat(unit, 2)) > 0 {
				t.Errorf("%+v: %d is read as %v by both", d, angle, mean)
			}
		}
	}
}

// TestPromise6ClosingsThatAreSharedOutAreZero adds up what is left, and compares what has been taken away.
func TestPromise6ClosingsThatAreSharedOutAreZero(t *testing.T) {
	for _, sectors := range sectorLists() {
		closing, _ := impl.ClosingOf(sectors)
		shared, code := impl.ShareClosing(sectors)
		if code != impl.OK || len(shared) != len(sectors) || expectClosing(shared) != 0 {
			t.Errorf("%v: got %v, which has a closing", sectors, shared)
			continue
		}
		if again, code := impl.ClosingOf(shared); code == impl.OK && again != 0 {
			t.Errorf("%v: the closing of %v is %d", sectors, shared, again)
		}
		share := floorRat(big.NewRat(closing, int64(len(sectors)))).Int64()
		for i := range shared {
			if taken := sectors[i] - shared[i]; taken != share && taken != share+1 {
				t.Errorf("%v: the sector %d loses %d", sectors, i, taken)
			}
		}
	}
}

// TestPromise6FaultsThatAreMeasuredComeBack measures all sectors of disks with a unit of 1.
func TestPromise6FaultsThatAreMeasuredComeBack(t *testing.T) {
	for _, d := range validDisks() {
		n := int64(len(d.Faults))
		for _, middle := range []Disk{disk(d.Faults...), d} {
			sectors, code := impl.SectorsOf(middle, n, 1)
			if n == 1 {
				sameList(t, d, sectors, code, nil, impl.ErrRange)
				continue
			}
			faults, codeTwo := impl.FaultsFrom(sectors)
			if code != impl.OK || codeTwo != impl.OK {
				t.Fatalf("%+v: no faults", middle)
			}
			for i := range n {
				at := i * (circle / n)
				want := expectTurnFrom(at, expectRead(middle, at, 1)) - expectTurnFrom(0, expectRead(middle, 0, 1))
				if middle.East == 0 && middle.North == 0 {
					want = int64(d.Faults[i]) - int64(d.Faults[0])
				}
				if faults[i] != want {
					t.Errorf("%+v: the fault %d comes back as %d, want %d", middle, i, faults[i], want)
				}
			}
		}
	}
}

// errorAt returns the size of the error of what is read at an angle.
func errorAt(d Disk, angle, unit int64) int64 {
	reading, _ := impl.ReadHead(d, angle, unit)
	turn, _ := impl.TurnFrom(angle, reading)
	return max(turn, -turn)
}

// TestPromise7TheMeanIsOffByNoMore compares the mean with the first and the last reading.
func TestPromise7TheMeanIsOffByNoMore(t *testing.T) {
	random := rand.New(rand.NewSource(7))
	uneven := 0
	for _, d := range validDisks() {
		for range 60 {
			start, angle, times, unit := random.Int63n(circle), random.Int63n(circle), 1+random.Int63n(200), 1+random.Int63n(3600)
			mean, _, code := impl.RepeatAngle(d, start, angle, times, unit)
			if code != impl.OK {
				t.Fatalf("%+v: no mean", d)
			}
			off := new(big.Rat).Sub(rat(mean), big.NewRat(angle, 1))
			errors := errorAt(d, start, unit) + errorAt(d, (start+times*angle)%circle, unit)
			if off.Abs(off).Cmp(big.NewRat(errors, times)) > 0 {
				t.Errorf("%+v: %d, %d times from %d, has the mean %v", d, angle, times, start, mean)
			}
			if off.Sign() != 0 {
				uneven++
			}
			best, bestMean, code := impl.BestRepeats(d, start, angle, times, unit)
			bestOff := new(big.Rat).Sub(rat(bestMean), big.NewRat(angle, 1))
			if code != impl.OK || best < 1 || best > times || bestOff.Abs(bestOff).Cmp(off) > 0 {
				t.Errorf("%+v: %d, up to %d times from %d, is best as %v", d, angle, times, start, bestMean)
			}
		}
	}
	if uneven < 1000 {
		t.Errorf("only %d were off", uneven)
	}
}
