package tests

import (
	"math"
	"math/rand"
	"testing"

	"loop.example/g01254/impl"
)

// TestExampleOfReaders has what the document tells.
func TestExampleOfReaders(t *testing.T) {
	r := exampleReader()
	n, code := impl.ReadingOf(r, whole(12))
	same(t, "12", n, code, 15, impl.OK)
	n, code = impl.ReadingOf(r, frac(11, 2))
	same(t, "11/2", n, code, 5, impl.OK)
	median, code := impl.MedianOf([]int64{1, 2, 9})
	same(t, "median", median, code, whole(2), impl.OK)
	scatter, code := impl.ScatterOf([]int64{1, 2, 9})
	same(t, "scatter", scatter, code, whole(1), impl.OK)
	left, code := impl.LeaveOut([]int64{1, 2, 3, 90}, 3)
	sameList(t, "leave out", left, code, []int64{1, 2, 3}, impl.OK)
	g, code := impl.HabitOf(wholes(1, 2, 3), []int64{3, 4, 5})
	same(t, "habit", g, code, guess(2, 1, true), impl.OK)
	spans, code := impl.CorrectReadings(r, []int64{15})
	sameList(t, "correct", spans, code, []Span{span(frac(23, 2), frac(33, 2))}, impl.OK)
	unit, code := impl.UnitSeen([]int64{10, 25, 5})
	same(t, "unit", unit, code, 5, impl.OK)
}

func TestValidReader(t *testing.T) {
	checkValidity(t, impl.ValidReader, validReaders(), invalidReaders())
}

func TestValidReaderByItsLimits(t *testing.T) {
	for name, want := range map[string]bool{"": false, "a": true, "z": true, "ab": true, "abcdefghijkl": true, "abcdefghijklm": false, "abcdefghijkL": false, "abcdefghijk{": false} {
		if got := impl.ValidReader(reader(name, 0, 1, true)); got != want {
			t.Errorf("the name %q: got %v", name, got)
		}
	}
	for n := math.MinInt16; n <= math.MaxInt16; n++ {
		bias, unit := reader("a", int16(n), 1, true), reader("a", 0, int16(n), false)
		if got := impl.ValidReader(bias); got != (n >= -50 && n <= 50) {
			t.Errorf("the bias %d: got %v", n, got)
		}
		if got := impl.ValidReader(unit); got != (n >= 1 && n <= 20) {
			t.Errorf("the unit %d: got %v", n, got)
		}
	}
}

// TestValidReaderOfEveryLetter has each byte, alone, and at both ends of a name.
func TestValidReaderOfEveryLetter(t *testing.T) {
	for b := range 256 {
		letter := string([]byte{byte(b)})
		for _, name := range []string{letter, "a" + letter, letter + "z", "abcdefghijk" + letter} {
			if got := impl.ValidReader(reader(name, 0, 1, true)); got != (b >= 'a' && b <= 'z') {
				t.Errorf("the name %q: got %v", name, got)
			}
		}
	}
}

func TestReadingOf(t *testing.T) {
	told := map[int64]int{}
	values := append(readValues(), invalidFracs()...)
	for _, r := range append(validReaders(), invalidReaders()...) {
		for _, value := range values {
			got, code := impl.ReadingOf(r, value)
			want, wantCode := expectReadingOf(r, value)
			same(t, []any{r, value}, got, code, want, wantCode)
			told[code]++
		}
	}
	enough(t, told, 500, impl.OK, impl.ErrRange, impl.ErrInvalid)
}

// TestReadingOfNearMultiples has values around and between multiples of each unit, on both sides of 0.
func TestReadingOfNearMultiples(t *testing.T) {
	for unit := int16(1); unit <= 20; unit++ {
		for _, bias := range []int16{0, 3, -50} {
			for n := int64(-6 * int64(unit)); n <= 6*int64(unit); n++ {
				for _, up := range []bool{true, false} {
					r := reader("a", bias, unit, up)
					value, _ := impl.MakeFrac(n-4*int64(bias), 4)
					got, code := impl.ReadingOf(r, value)
					want, wantCode := expectReadingOf(r, value)
					same(t, []any{r, value}, got, code, want, wantCode)
					if !isReadAs(guessOf(r), value, got) {
						t.Errorf("%+v: %v is not read as %d", r, value, got)
					}
				}
			}
		}
	}
}

func TestReadingOfByHand(t *testing.T) {
	for _, c := range []struct {
		bias, unit int16
		value      Frac
		up, down   int64
	}{
		{0, 1, whole(7), 7, 7}, {0, 1, frac(15, 2), 8, 7}, {0, 1, frac(-15, 2), -7, -8}, {0, 1, frac(1, 2), 1, 0}, {0, 1, frac(-1, 2), 0, -1}, {0, 1, frac(29, 4), 7, 7}, {0, 1, frac(31, 4), 8, 8}, {0, 1, frac(-29, 4), -7, -7}, {0, 1, frac(-31, 4), -8, -8}, {0, 1, frac(499999999, most), 0, 0},
		{0, 2, whole(3), 4, 2}, {0, 2, whole(-3), -2, -4}, {0, 2, whole(1), 2, 0}, {0, 2, whole(-1), 0, -2}, {0, 2, whole(4), 4, 4}, {0, 2, frac(5, 2), 2, 2}, {0, 2, frac(7, 2), 4, 4}, {0, 2, frac(-5, 2), -2, -2},
		{0, 5, frac(5, 2), 5, 0}, {0, 5, frac(-5, 2), 0, -5}, {0, 5, frac(25, 2), 15, 10}, {0, 5, frac(-25, 2), -10, -15}, {0, 5, whole(12), 10, 10}, {0, 5, whole(13), 15, 15}, {0, 5, whole(-12), -10, -10}, {0, 5, whole(-13), -15, -15}, {0, 5, frac(250000001, most/10), 5, 5},
		{0, 20, whole(10), 20, 0}, {0, 20, whole(-10), 0, -20}, {0, 20, whole(9), 0, 0}, {0, 20, whole(11), 20, 20}, {0, 3, frac(9, 2), 6, 3}, {0, 3, whole(4), 3, 3}, {0, 3, whole(5), 6, 6}, {0, 3, whole(-4), -3, -3},
		{1, 5, whole(12), 15, 15}, {1, 5, frac(11, 2), 5, 5}, {1, 5, frac(3, 2), 5, 0}, {-1, 5, frac(7, 2), 5, 0}, {50, 20, whole(0), 60, 40}, {-50, 20, whole(0), -40, -60}, {50, 1, whole(-50), 0, 0}, {-50, 1, whole(-50), -100, -100}, {7, 20, whole(3), 20, 0}, {-7, 20, whole(-3), 0, -20},
		{0, 1, whole(mostReading), mostReading, mostReading}, {0, 1, whole(-mostReading), -mostReading, -mostReading}, {50, 1, whole(mostReading - 50), mostReading, mostReading}, {-50, 1, whole(mostReading + 50), mostReading, mostReading}, {-50, 20, whole(mostReading + 59), mostReading, mostReading}, {0, 20, frac(2*mostReading+19, 2), mostReading, mostReading}, {0, 20, frac(-2*mostReading-19, 2), -mostReading, -mostReading}, {0, 3, whole(999999), 999999, 999999}, {0, 3, whole(mostReading), 999999, 999999},
		{0, 1, frac(4*mostReading+1, 4), mostReading, mostReading}, {0, 1, frac(-4*mostReading-1, 4), -mostReading, -mostReading},
	} {
		got, code := impl.ReadingOf(reader("a", c.bias, c.unit, true), c.value)
		same(t, c, got, code, c.up, impl.OK)
		got, code = impl.ReadingOf(reader("a", c.bias, c.unit, false), c.value)
		same(t, c, got, code, c.down, impl.OK)
	}
}

// TestReadingOfGreatValues has values whose sums, or the readings of which, are too great.
func TestReadingOfGreatValues(t *testing.T) {
	for _, c := range []struct {
		r     Reader
		value Frac
		want  int64
		code  int64
	}{
		{reader("a", 0, 1, true), whole(mostReading + 1), 0, impl.ErrRange}, {reader("a", 0, 1, true), whole(-mostReading - 1), 0, impl.ErrRange}, {reader("a", 1, 1, true), whole(mostReading), 0, impl.ErrRange}, {reader("a", -1, 1, false), whole(-mostReading), 0, impl.ErrRange},
		{reader("a", 0, 1, true), frac(2*mostReading+1, 2), 0, impl.ErrRange}, {reader("a", 0, 1, false), frac(2*mostReading+1, 2), mostReading, impl.OK}, {reader("a", 0, 1, true), frac(-2*mostReading-1, 2), -mostReading, impl.OK}, {reader("a", 0, 1, false), frac(-2*mostReading-1, 2), 0, impl.ErrRange},
		{reader("a", 0, 20, true), whole(mostReading + 10), 0, impl.ErrRange}, {reader("a", 0, 20, false), whole(mostReading + 10), mostReading, impl.OK}, {reader("a", 0, 20, true), whole(-mostReading - 10), -mostReading, impl.OK}, {reader("a", 0, 20, false), whole(-mostReading - 10), 0, impl.ErrRange},
		{reader("a", 0, 3, true), frac(2*mostReading+1, 2), 0, impl.ErrRange}, {reader("a", 0, 3, false), frac(2*mostReading+1, 2), 999999, impl.OK}, {reader("a", 0, 7, true), whole(mostReading), mostReading - 1, impl.OK}, {reader("a", 0, 7, true), whole(mostReading + 3), 0, impl.ErrRange},
		{reader("a", 50, 20, true), whole(most), 0, impl.ErrRange}, {reader("a", -50, 20, true), whole(least), 0, impl.ErrRange}, {reader("a", 50, 1, true), frac(most-1, most), 51, impl.OK}, {reader("a", -50, 1, true), frac(-1, most), -50, impl.OK}, {reader("a", 50, 20, false), frac(least, most-1), 40, impl.OK}, {reader("a", 50, 20, true), frac(least, most-1), 40, impl.OK}, {reader("a", 50, 20, true), frac(1-most, most), 40, impl.OK}, {reader("a", 50, 20, true), frac(1, most), 60, impl.OK},
	} {
		got, code := impl.ReadingOf(c.r, c.value)
		same(t, c, got, code, c.want, c.code)
		list, code := impl.ReadingsOf(c.r, []Frac{whole(0), c.value})
		want, wantCode := expectReadingsOf(c.r, []Frac{whole(0), c.value})
		sameList(t, c, list, code, want, wantCode)
		if code != c.code {
			t.Errorf("%+v: together with 0, got %s", c, impl.CodeName(code))
		}
	}
}

func TestReadingsOf(t *testing.T) {
	random := rand.New(rand.NewSource(61))
	told := map[int64]int{}
	check := func(r Reader, values []Frac) {
		got, code := impl.ReadingsOf(r, values)
		want, wantCode := expectReadingsOf(r, values)
		sameList(t, []any{r, values}, got, code, want, wantCode)
		told[code]++
	}
	great := readValues()
	for _, r := range append(validReaders(), invalidReaders()...) {
		for _, n := range []int{0, 1, 2, 5, 63, 64, 65, 66} {
			values := someValues(random, n)
			check(r, values)
			if n == 0 {
				continue
			}
			values[random.Intn(n)] = great[random.Intn(len(great))]
			check(r, values)
			values[n-1] = invalidFracs()[random.Intn(len(invalidFracs()))]
			check(r, values)
		}
	}
	enough(t, told, 300, impl.OK, impl.ErrRange, impl.ErrInvalid)
}

func TestReadingsOfByHand(t *testing.T) {
	r, wrong := exampleReader(), reader("ann", 51, 5, true)
	for _, c := range []struct {
		r      Reader
		values []Frac
		want   []int64
		code   int64
	}{
		{r, []Frac{whole(12), frac(11, 2)}, []int64{15, 5}, impl.OK}, {r, []Frac{frac(11, 2), whole(12), whole(12)}, []int64{5, 15, 15}, impl.OK}, {r, wholes(-1), []int64{0}, impl.OK}, {r, repeated(whole(-1), 64), repeated(int64(0), 64), impl.OK},
		{r, nil, nil, impl.ErrRange}, {r, []Frac{}, nil, impl.ErrRange}, {r, repeated(whole(-1), 65), nil, impl.ErrRange}, {r, wholes(0, mostReading+2), nil, impl.ErrRange}, {r, wholes(least, 0), nil, impl.ErrRange},
		{wrong, wholes(1), nil, impl.ErrInvalid}, {wrong, nil, nil, impl.ErrInvalid}, {wrong, rising(65), nil, impl.ErrInvalid}, {r, []Frac{whole(most), frac(2, 4)}, nil, impl.ErrInvalid}, {r, append(rising(65), frac(0, 0)), nil, impl.ErrInvalid},
	} {
		got, code := impl.ReadingsOf(c.r, c.values)
		sameList(t, c, got, code, c.want, c.code)
	}
}
