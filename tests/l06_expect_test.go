package tests

import (
	"cmp"
	"math"
	"math/big"
	"math/rand"
	"slices"
	"strings"

	"loop.example/g01254/impl"
)

// The names of chapter 6, for shorter tests.
type (
	Reader = impl.Reader
	Guess  = impl.Guess
)

const mostReading = impl.MaxReading

func reader(name string, bias, unit int16, up bool) Reader {
	return Reader{Name: name, Bias: bias, Unit: unit, Up: up}
}

func guess(bias, unit int16, up bool) Guess { return Guess{Bias: bias, Unit: unit, Up: up} }

func guessOf(r Reader) Guess { return guess(r.Bias, r.Unit, r.Up) }

// exampleReader is that of the document.
func exampleReader() Reader { return reader("ann", 1, 5, true) }

// validReaders has every unit, with and without Up, and biases of all sizes.
func validReaders() []Reader {
	list := []Reader{
		exampleReader(), reader("a", 50, 20, true), reader("z", -50, 20, false), reader("abcdefghijkl", 0, 1, true), reader("zzzzzzzzzzzz", 0, 1, false),
		reader("m", -50, 1, true), reader("n", 50, 1, false), reader("o", 49, 19, false), reader("p", -49, 19, true),
	}
	for unit := int16(1); unit <= 20; unit++ {
		for i, bias := range []int16{0, 1, -1, unit / 2, -7, 13 * unit % 51} {
			list = append(list, reader(nameOf(int(unit)+20*i), bias, unit, true), reader("down", bias, unit, false))
		}
	}
	return list
}

func badNames() []string {
	return []string{
		"", "abcdefghijklm", "A", "Z", "aB", "a1", "1", "a b", " a", "a ", "-", "a-b", "a\n", "\n", "`", "{", "a{", "`a", "ä", "aä", "\xff", "a\xff", "a\x00", "a.b", "ａ", strings.Repeat("a", 100), strings.Repeat("A", 12), strings.Repeat("ä", 6),
	}
}

// badHabits have biases and units that are too great by one or by far, alone and together.
func badHabits() []Guess {
	list := []Guess{{}, guess(51, 21, true), guess(-51, 0, false)}
	for _, bias := range []int16{51, -51, 52, 100, -100, math.MaxInt16, math.MinInt16, math.MinInt16 + 1, 256, -256} {
		list = append(list, guess(bias, 1, true), guess(bias, 20, false))
	}
	for _, unit := range []int16{0, -1, 21, 22, -20, 257, 256, math.MaxInt16, math.MinInt16, math.MinInt16 + 1} {
		list = append(list, guess(0, unit, true), guess(50, unit, false))
	}
	return list
}

// invalidReaders has one reason for each reader not to be valid.
func invalidReaders() []Reader {
	list := []Reader{{}, {Name: "a"}}
	for _, name := range badNames() {
		list = append(list, reader(name, 1, 5, true))
	}
	for _, g := range badHabits() {
		list = append(list, reader("ann", g.Bias, g.Unit, g.Up))
	}
	return list
}

func isHabit(g Guess) bool {
	return g.Bias >= -50 && g.Bias <= 50 && slices.Contains([]int16{1, 2, 3, 4, 5, 6, 7, 8, 9, 10, 11, 12, 13, 14, 15, 16, 17, 18, 19, 20}, g.Unit)
}

func isReader(r Reader) bool { return namePattern.MatchString(r.Name) && isHabit(guessOf(r)) }

func areReaders(list []Reader) bool {
	return !slices.ContainsFunc(list, func(r Reader) bool { return !isReader(r) })
}

func areValid(values []Frac) bool {
	return !slices.ContainsFunc(values, func(a Frac) bool { return !impl.ValidFrac(a) })
}

// noReadings are beyond the readings by one or by far.
func noReadings() []int64 {
	return []int64{mostReading + 1, -mostReading - 1, 2 * mostReading, most, math.MaxInt64, math.MaxInt64 - 1, math.MinInt64, math.MinInt64 + 1, 1 << 32, -1 << 32, 1<<32 + 5}
}

func isReading(n int64) bool { return n >= -1000000 && n <= 1000000 }

// readingsCode returns the first error of a list of readings.
func readingsCode(list []int64) int64 {
	if len(list) < 1 || len(list) > 64 || slices.ContainsFunc(list, func(n int64) bool { return !isReading(n) }) {
		return impl.ErrRange
	}
	return impl.OK
}

// trialCode returns the first error of readers, values and readings.
func trialCode(areValidReaders bool, values []Frac, readings []int64) int64 {
	if !areValidReaders || !areValid(values) {
		return impl.ErrInvalid
	}
	if len(values) != len(readings) {
		return impl.ErrRange
	}
	return readingsCode(readings)
}

// readAs returns what is read of a value, however great it is: the nearer one of both multiples around it.
func readAs(g Guess, value Frac) *big.Int {
	sum, unit := new(big.Rat).Add(rat(value), big.NewRat(int64(g.Bias), 1)), big.NewRat(int64(g.Unit), 1)
	low := new(big.Rat).SetInt(floorRat(new(big.Rat).Quo(sum, unit)))
	low.Mul(low, unit)
	high := new(big.Rat).Add(low, unit)
	nearer := new(big.Rat).Sub(sum, low).Cmp(new(big.Rat).Sub(high, sum))
	if nearer > 0 || nearer == 0 && g.Up {
		return high.Num()
	}
	return low.Num()
}

func expectReadingOf(r Reader, value Frac) (int64, int64) {
	if !isReader(r) || !impl.ValidFrac(value) {
		return 0, impl.ErrInvalid
	}
	n := readAs(guessOf(r), value)
	if !isReading(n.Int64()) {
		return 0, impl.ErrRange
	}
	return n.Int64(), impl.OK
}

func expectReadingsOf(r Reader, values []Frac) ([]int64, int64) {
	if !isReader(r) || !areValid(values) {
		return nil, impl.ErrInvalid
	}
	if len(values) < 1 || len(values) > 64 {
		return nil, impl.ErrRange
	}
	var readings []int64
	for _, value := range values {
		n, code := expectReadingOf(r, value)
		if code != impl.OK {
			return nil, code
		}
		readings = append(readings, n)
	}
	return readings, impl.OK
}

// isReadAs compares a value with both ends of the numbers that are rounded to a reading.
func isReadAs(g Guess, value Frac, reading int64) bool {
	low := (2*(reading-int64(g.Bias)) - int64(g.Unit)) * value.Q
	high := low + 2*int64(g.Unit)*value.Q
	if reading%int64(g.Unit) != 0 || 2*value.P < low || 2*value.P > high {
		return false
	}
	return g.Up && 2*value.P < high || !g.Up && 2*value.P > low
}

func hitsOf(g Guess, values []Frac, readings []int64) int64 {
	hits := int64(0)
	for i, value := range values {
		if isReadAs(g, value, readings[i]) {
			hits++
		}
	}
	return hits
}

// allGuesses puts all of them in the order of the document.
func allGuesses() []Guess {
	var list []Guess
	for bias := int16(-50); bias <= 50; bias++ {
		for unit := int16(1); unit <= 20; unit++ {
			list = append(list, guess(bias, unit, false), guess(bias, unit, true))
		}
	}
	rank := func(isLast bool) int {
		if isLast {
			return 1
		}
		return 0
	}
	slices.SortFunc(list, func(a, b Guess) int {
		return cmp.Or(cmp.Compare(a.Unit, b.Unit), cmp.Compare(a.Bias*a.Bias, b.Bias*b.Bias), rank(a.Bias < 0)-rank(b.Bias < 0), rank(!a.Up)-rank(!b.Up))
	})
	return list
}

var orderedGuesses = allGuesses()

// expectHabits returns all guesses that explain readings, in order.
func expectHabits(values []Frac, readings []int64) []Guess {
	var list []Guess
	for _, g := range orderedGuesses {
		if hitsOf(g, values, readings) == int64(len(values)) {
			list = append(list, g)
		}
	}
	return list
}

// distancesFrom returns how far readings are from their median.
func distancesFrom(readings []int64) []Frac {
	median, _ := expectMiddle(wholes(readings...))
	var list []Frac
	for _, n := range readings {
		away := new(big.Rat).Sub(big.NewRat(n, 1), rat(median))
		a, _ := toldRat(away.Abs(away))
		list = append(list, a)
	}
	return list
}

func expectMedian(readings []int64) (Frac, int64) {
	if code := readingsCode(readings); code != impl.OK {
		return Frac{}, code
	}
	return expectMiddle(wholes(readings...))
}

func expectScatter(readings []int64) (Frac, int64) {
	if code := readingsCode(readings); code != impl.OK {
		return Frac{}, code
	}
	return expectMiddle(distancesFrom(readings))
}

// expectLeaveOut looks for the farthest one as long as more than half of the readings would stay without it.
func expectLeaveOut(readings []int64, times int64) ([]int64, int64) {
	if readingsCode(readings) != impl.OK || times < 1 || times > 100 {
		return nil, impl.ErrRange
	}
	left := slices.Clone(readings)
	for 2*(len(left)-1) > len(readings) {
		distances := distancesFrom(left)
		scatter, _ := expectMiddle(distances)
		farthest := 0
		for i := len(left) - 1; i >= 0; i-- {
			if rat(distances[i]).Cmp(rat(distances[farthest])) >= 0 {
				farthest = i
			}
		}
		limit := new(big.Rat).Mul(rat(scatter), big.NewRat(times, 1))
		if rat(distances[farthest]).Cmp(limit) <= 0 {
			return left, impl.OK
		}
		left = append(slices.Clone(left[:farthest]), left[farthest+1:]...)
	}
	return left, impl.OK
}

func expectTrimmedMean(readings []int64, each int64) (Frac, int64) {
	n := big.NewInt(int64(len(readings)))
	if readingsCode(readings) != impl.OK || each < 0 || new(big.Int).Mul(big.NewInt(2), big.NewInt(each)).Cmp(n) >= 0 {
		return Frac{}, impl.ErrRange
	}
	sorted := slices.Clone(readings)
	slices.Sort(sorted)
	return expectMean(wholes(sorted[each : int64(len(readings))-each]...))
}

// ordinaryLists have readings of all kinds: few and many, equal and different, and those at the limits.
func ordinaryLists() [][]int64 {
	list := [][]int64{
		{0}, {1}, {-1}, {mostReading}, {-mostReading}, {1, 2}, {2, 1}, {-3, 4}, {7, 7}, {-5, 5}, {1, 2, 9}, {9, 2, 1}, {1, 2, 3, 90}, {90, 3, 2, 1}, {10, 25, 5}, {12, -22, 5}, {0, 0, 0}, {0, 0, 0, 0, 0, 1},
		{5, 0, 0, -5}, {-5, 0, 0, 5}, {-1, -1, 0, 1, 3}, {3, 1, 0, -1, -1}, {0, 1, 2, 3, 4, 30, 1000}, {1000, 30, 4, 3, 2, 1, 0}, {mostReading, -mostReading}, {mostReading, mostReading, -mostReading}, {-mostReading, mostReading, -mostReading, mostReading},
		{1, 3, 5, 7, 9, 100, -100, 1000, -1000}, {100, -100, 5, 5, 5, 5}, {-100, 100, 5, 5, 5, 5}, {4, 4, 4, 9, 9, 9}, {6, 1, 6, 1, 6, 1, 40},
		repeated(int64(7), 64), repeated(int64(mostReading), 64), repeated(int64(-mostReading), 63), rising64(64), rising64(63),
	}
	random := rand.New(rand.NewSource(6))
	for range 150 {
		size := []int64{1, 3, 10, 50, 1000, mostReading}[random.Intn(6)]
		some := make([]int64, 1+random.Intn([]int{4, 9, 20, 64}[random.Intn(4)]))
		for i := range some {
			some[i] = random.Int63n(2*size+1) - size
			if random.Intn(8) == 0 {
				some[i] = random.Int63n(2*mostReading+1) - mostReading
			}
		}
		list = append(list, some)
	}
	return list
}

// wrongLists have none, too many, or a number that is no reading, in any place.
func wrongLists() [][]int64 {
	list := [][]int64{nil, {}, make([]int64, 0, 4), rising64(65), repeated(int64(0), 66), repeated(int64(math.MinInt64), 65), rising64(1000)}
	for _, n := range noReadings() {
		list = append(list, []int64{n}, []int64{n, 1, 2}, []int64{0, 1, n, 5}, append(rising64(63), n), append(rising64(64), n))
	}
	return list
}

// onReadings calls check with readings of all kinds, also those that are none.
func onReadings(check func(readings []int64)) {
	for _, readings := range append(ordinaryLists(), wrongLists()...) {
		check(readings)
	}
}

// readValues are those that are read: near and far, between multiples, and at the limits of readings and of fractions.
func readValues() []Frac {
	list := append(validFracs(), frac(11, 2), frac(25, 2), frac(-25, 2), frac(15, 4), frac(-1, 4), whole(12), whole(-12), frac(49, 3), frac(101, 7))
	for _, n := range []int64{mostReading, -mostReading} {
		for _, by := range []int64{-60, -51, -50, -49, -11, -10, -9, -1, 0, 1, 9, 10, 11, 49, 50, 51, 60} {
			list = append(list, whole(n+by), frac(2*(n+by)+1, 2), frac(3*(n+by)+1, 3))
		}
	}
	return list
}

// someValues returns so many values, many of them between two multiples of a unit, or beside this.
func someValues(random *rand.Rand, n int) []Frac {
	list := make([]Frac, n)
	for i := range list {
		q := []int64{1, 2, 2, 3, 4, 10}[random.Intn(6)]
		a, _ := impl.MakeFrac(random.Int63n(400*q+1)-200*q, q)
		list[i] = a
	}
	return list
}

// trial is what somebody has read of values, or nearly so.
type trial struct {
	values   []Frac
	readings []int64
}

// ordinaryTrials has those of readers with habits, with a reading changed here and there, and some by hand.
func ordinaryTrials() []trial {
	list := []trial{
		{wholes(1, 2, 3), []int64{3, 4, 5}}, {wholes(1, 2, 3), []int64{3, 2, 3}}, {wholes(1), []int64{1000}}, {wholes(0), []int64{0}}, {wholes(9), []int64{10}}, {[]Frac{frac(1, 2)}, []int64{0}}, {[]Frac{frac(1, 2)}, []int64{1}}, {[]Frac{frac(1, 2), whole(1)}, []int64{1, 1}},
		{wholes(0, 7), []int64{0, 10}}, {wholes(0, 3), []int64{0, 4}}, {wholes(1, 2), []int64{0, 5}}, {wholes(10, 30), []int64{0, 20}}, {wholes(mostReading), []int64{mostReading}}, {wholes(-mostReading), []int64{-mostReading}}, {wholes(mostReading + 50), []int64{mostReading}}, {wholes(mostReading + 60), []int64{mostReading}}, {wholes(mostReading + 61), []int64{mostReading}}, {wholes(-mostReading - 60), []int64{-mostReading}},
		{wholes(most), []int64{mostReading}}, {wholes(least), []int64{-mostReading}}, {[]Frac{frac(1, most)}, []int64{0}}, {wholes(0), []int64{50}}, {wholes(0), []int64{51}}, {wholes(0), []int64{-50}}, {wholes(0), []int64{60}}, {wholes(0), []int64{61}}, {wholes(0), []int64{-60}}, {rising(64), rising64(64)}, {repeated(frac(1, 2), 64), repeated(int64(0), 64)},
	}
	random := rand.New(rand.NewSource(66))
	for i, r := range validReaders() {
		values := someValues(random, 1+random.Intn([]int{1, 3, 10, 64}[i%4]))
		readings, _ := expectReadingsOf(r, values)
		list = append(list, trial{values, readings})
		if i%2 == 0 {
			changed := slices.Clone(readings)
			changed[random.Intn(len(changed))] += []int64{1, -1, int64(r.Unit), -int64(r.Unit)}[random.Intn(4)]
			list = append(list, trial{values, changed})
		}
	}
	return list
}

// wrongTrials has values and readings that are not as many, none, too many, or not valid, and what error this is.
func wrongTrials() map[int64][]trial {
	list := map[int64][]trial{impl.ErrRange: {
		{}, {values: wholes(1)}, {readings: []int64{1}}, {wholes(1, 2), []int64{1}}, {wholes(1), []int64{1, 2}}, {rising(65), rising64(65)}, {rising(64), rising64(65)}, {rising(65), rising64(64)}, {rising(64), rising64(63)}, {[]Frac{}, []int64{}},
	}}
	for _, n := range noReadings() {
		list[impl.ErrRange] = append(list[impl.ErrRange], trial{wholes(1), []int64{n}}, trial{wholes(1, 2, 3), []int64{1, 2, n}}, trial{wholes(most), []int64{n}}, trial{rising(64), append(rising64(63), n)})
	}
	for _, a := range invalidFracs() {
		list[impl.ErrInvalid] = append(list[impl.ErrInvalid], trial{[]Frac{a}, []int64{1}}, trial{[]Frac{whole(1), a}, []int64{1, 1}}, trial{[]Frac{a}, nil}, trial{[]Frac{a}, []int64{math.MinInt64}}, trial{append(rising(65), a), rising64(65)}, trial{append(rising(100), a), nil}, trial{append(rising(63), a), rising64(64)})
	}
	return list
}

// onTrials calls check with values and readings of all kinds, also those that are none.
func onTrials(check func(x trial)) {
	for _, x := range ordinaryTrials() {
		check(x)
	}
	wrong := wrongTrials()
	for _, x := range append(wrong[impl.ErrInvalid], wrong[impl.ErrRange]...) {
		check(x)
	}
}

// nearest is what NearestReader finds.
type nearest struct{ index, hits int64 }

func nearestReader(list []Reader, x trial) (nearest, int64) {
	i, hits, code := impl.NearestReader(list, x.values, x.readings)
	return nearest{i, hits}, code
}

// liked is what LikedDigit finds.
type liked struct{ digit, more int64 }

func likedDigit(readings []int64) (liked, int64) {
	digit, more, code := impl.LikedDigit(readings)
	return liked{digit, more}, code
}

// namedReaders returns so many valid readers.
func namedReaders(n int) []Reader {
	var list []Reader
	for i := range n {
		list = append(list, reader(nameOf(i), int16(i%51), int16(1+i%20), i%2 == 0))
	}
	return list
}
