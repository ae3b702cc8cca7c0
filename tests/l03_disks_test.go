package tests

import (
	"math"
	"slices"
	"testing"

	"loop.example/g01254/impl"
)

func TestValidDisk(t *testing.T) {
	checkValidity(t, impl.ValidDisk, validDisks(), invalidDisks())
}

func TestValidDiskOfManySectors(t *testing.T) {
	valid := 0
	for n := range 200 {
		want := slices.Contains(divisions(), n)
		if got := impl.ValidDisk(disk(make([]int16, n)...)); got != want {
			t.Errorf("%d sectors: got %t", n, got)
		}
		if want {
			valid++
		}
	}
	// 1296000 is 2 to the 7th, times 3 to the 4th, times 5 to the 3rd.
	if want := []int{1, 2, 3, 4, 5, 6, 8, 9, 10, 12, 15, 16, 18, 20, 24, 25, 27, 30, 32, 36, 40, 45, 48, 50, 54, 60, 64, 72}; !slices.Equal(divisions(), want) || valid != len(want) {
		t.Errorf("%d were valid, want %v", valid, want)
	}
}

// TestValidDiskOfEveryFault tries all numbers that a fault can be.
func TestValidDiskOfEveryFault(t *testing.T) {
	for f := math.MinInt16; f <= math.MaxInt16; f++ {
		want := f >= -600 && f <= 600
		if got := impl.ValidDisk(disk(0, 0, int16(f))); got != want {
			t.Errorf("the fault %d: got %t", f, got)
		}
		if impl.ValidDisk(Disk{Faults: []int16{0}, East: int64(f)}) != want || impl.ValidDisk(Disk{Faults: []int16{0}, North: int64(f)}) != want {
			t.Errorf("the offset %d: got %t", f, !want)
		}
	}
}

func TestSameDisk(t *testing.T) {
	list := append(validDisks(), invalidDisks()...)
	for i, d := range list {
		if !impl.SameDisk(d, Disk{Faults: slices.Clone(d.Faults), East: d.East, North: d.North}) {
			t.Errorf("%+v is the same as its copy", d)
		}
		for _, e := range list[i+1:] {
			want := slices.Equal(d.Faults, e.Faults) && d.East == e.East && d.North == e.North
			if impl.SameDisk(d, e) != want || impl.SameDisk(e, d) != want {
				t.Errorf("%+v and %+v: same is %t", d, e, !want)
			}
		}
	}
	for _, c := range []struct {
		d, e Disk
		want bool
	}{
		{Disk{}, Disk{}, true}, {Disk{}, Disk{Faults: []int16{}}, true}, {Disk{}, disk(0), false},
		{disk(0), disk(0, 0), false}, {disk(1, 2), disk(2, 1), false}, {disk(1, 2), disk(1, 2), true}, {disk(1, 2, 3), disk(1, 2), false},
		{Disk{East: 1}, Disk{East: 2}, false}, {Disk{North: 1}, Disk{North: 2}, false}, {Disk{East: 1}, Disk{North: 1}, false},
		{Disk{East: math.MinInt64, North: math.MaxInt64}, Disk{East: math.MinInt64, North: math.MaxInt64}, true},
		{disk(math.MinInt16), disk(math.MinInt16), true},
	} {
		if impl.SameDisk(c.d, c.e) != c.want || impl.SameDisk(c.e, c.d) != c.want {
			t.Errorf("%+v and %+v: want %t", c.d, c.e, c.want)
		}
	}
}

func TestFaultAtAndSwingAt(t *testing.T) {
	onHeads(func(d Disk, angle, _ int64) {
		fault, code := impl.FaultAt(d, angle)
		swing, codeTwo := impl.SwingAt(d, angle)
		if !impl.ValidDisk(d) || !isAngle(angle) {
			same(t, []any{"fault", d, angle}, fault, code, Frac{}, impl.ErrInvalid)
			same(t, []any{"swing", d, angle}, swing, codeTwo, Frac{}, impl.ErrInvalid)
			return
		}
		want, wantCode := toldRat(expectFault(d, angle))
		same(t, []any{"fault", d, angle}, fault, code, want, wantCode)
		want, wantCode = toldRat(expectSwing(d, angle))
		same(t, []any{"swing", d, angle}, swing, codeTwo, want, wantCode)
	})
}

func TestFaultAtByHand(t *testing.T) {
	four := disk(0, 40, 0, -40)
	for _, c := range []struct {
		d     Disk
		angle int64
		want  Frac
	}{
		{four, 162000, whole(20)}, {four, 0, whole(0)}, {four, 324000, whole(40)}, {four, 486000, whole(20)}, {four, 648000, whole(0)}, {four, 972000, whole(-40)},
		{four, 1134000, whole(-20)}, {four, 1, frac(1, 8100)}, {four, 323999, frac(323999, 8100)}, {four, 324001, frac(323999, 8100)}, {four, 1295999, frac(-1, 8100)},
		{disk(7), 0, whole(7)}, {disk(7), 1295999, whole(7)}, {disk(-600), 5, whole(-600)}, // the one mark follows itself
		{disk(10, 20), 1295999, frac(648001, 64800)},
		{disk(0, 1), 1295999, frac(1, 648000)}, {disk(0, 1), 647999, frac(647999, 648000)}, {disk(0, 1), 324000, frac(1, 2)}, {disk(0, -1), 324000, frac(-1, 2)},
		{disk(600, -600), 1, frac(323999, 540)}, {disk(-600, 600), 324000, whole(0)},
		{Disk{Faults: []int16{3}, East: 600, North: -600}, 324000, whole(3)}, // the middle has no part in it
		{disk(append(repeated(int16(0), 71), 600)...), 1278000, whole(600)}, {disk(append(repeated(int16(0), 71), 600)...), 1287000, whole(300)},
		{disk(append([]int16{600}, repeated(int16(0), 71)...)...), 1287000, whole(300)}, // the first mark follows the last one
	} {
		got, code := impl.FaultAt(c.d, c.angle)
		same(t, []any{c.d, c.angle}, got, code, c.want, impl.OK)
	}
}

func TestSwingAtByHand(t *testing.T) {
	east, north := Disk{Faults: []int16{0}, East: 30}, Disk{Faults: []int16{0}, North: 30}
	back, south := Disk{Faults: []int16{0}, East: -600}, Disk{Faults: []int16{0}, North: -600}
	both := Disk{Faults: []int16{500}, East: 600, North: 600}
	for _, c := range []struct {
		d     Disk
		angle int64
		want  Frac
	}{
		{east, 0, whole(0)}, {east, 1, frac(1, 10800)}, {east, 323999, frac(323999, 10800)}, {east, 324000, whole(30)}, {east, 324001, frac(323999, 10800)},
		{east, 647999, frac(1, 10800)}, {east, 648000, whole(0)}, {east, 648001, frac(-1, 10800)},
		{east, 971999, frac(-323999, 10800)}, {east, 972000, whole(-30)}, {east, 972001, frac(-323999, 10800)}, {east, 1295999, frac(-1, 10800)},
		{north, 0, whole(30)}, {north, 1, frac(323999, 10800)}, {north, 324000, whole(0)}, {north, 324001, frac(-1, 10800)},
		{north, 648000, whole(-30)}, {north, 972000, whole(0)}, {north, 971999, frac(-1, 10800)}, {north, 1295999, frac(323999, 10800)},
		{back, 324000, whole(-600)}, {back, 972000, whole(600)}, {back, 162000, whole(-300)}, {south, 0, whole(-600)}, {south, 648000, whole(600)},
		{both, 0, whole(600)}, {both, 162000, whole(600)}, {both, 486000, whole(0)}, {both, 648000, whole(-600)}, {both, 810000, whole(-600)}, {both, 1134000, whole(0)},
	} {
		got, code := impl.SwingAt(c.d, c.angle)
		same(t, []any{c.d, c.angle}, got, code, c.want, impl.OK)
	}
}
