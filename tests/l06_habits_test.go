package tests

import (
	"math"
	"testing"

	"loop.example/g01254/impl"
)

func TestExplains(t *testing.T) {
	guesses := append(allGuesses(), badHabits()...)
	told, explained := map[int64]int{}, 0
	n := 0
	onTrials(func(x trial) {
		habits := []Guess{guess(0, 1, true), guess(51, 1, true)}
		if trialCode(true, x.values, x.readings) == impl.OK {
			habits = append(habits, expectHabits(x.values, x.readings)...)
		}
		for range 20 {
			n++
			habits = append(habits, guesses[37*n%len(guesses)])
		}
		for _, g := range habits {
			wantCode := trialCode(isHabit(g), x.values, x.readings)
			want := wantCode == impl.OK && hitsOf(g, x.values, x.readings) == int64(len(x.values))
			got, code := impl.Explains(g, x.values, x.readings)
			same(t, []any{g, x}, got, code, want, wantCode)
			told[code]++
			if got {
				explained++
			}
		}
	})
	enough(t, told, 1000, impl.OK, impl.ErrInvalid, impl.ErrRange)
	if explained < 500 {
		t.Errorf("only %d explain", explained)
	}
}

func TestExplainsByHand(t *testing.T) {
	for _, c := range []struct {
		g        Guess
		values   []Frac
		readings []int64
		want     bool
	}{
		{guess(2, 1, true), wholes(1, 2, 3), []int64{3, 4, 5}, true}, {guess(2, 1, false), wholes(1, 2, 3), []int64{3, 4, 5}, true}, {guess(2, 1, false), wholes(7), []int64{9}, true}, {guess(1, 1, true), wholes(1, 2, 3), []int64{3, 4, 5}, false}, {guess(2, 1, true), wholes(1, 2, 3), []int64{3, 4, 6}, false}, {guess(2, 1, true), wholes(1, 2, 3), []int64{2, 4, 5}, false}, {guess(2, 1, true), wholes(1, 2, 3), []int64{4, 3, 5}, false}, {guess(2, 2, true), wholes(1, 2, 3), []int64{3, 4, 5}, false},
		{guess(1, 5, true), []Frac{whole(12), frac(11, 2)}, []int64{15, 5}, true}, {guess(1, 5, true), []Frac{frac(3, 2)}, []int64{5}, true}, {guess(1, 5, false), []Frac{frac(3, 2)}, []int64{5}, false}, {guess(1, 5, false), []Frac{frac(3, 2)}, []int64{0}, true}, {guess(-50, 20, true), wholes(0), []int64{-40}, true}, {guess(-50, 20, false), wholes(0), []int64{-60}, true},
		// What would be no reading is no other one's reading, either.
		{guess(0, 1, true), wholes(mostReading + 1), []int64{mostReading}, false}, {guess(1, 1, true), wholes(mostReading), []int64{mostReading}, false}, {guess(0, 20, true), wholes(mostReading + 10), []int64{mostReading}, false}, {guess(0, 20, false), wholes(mostReading + 10), []int64{mostReading}, true}, {guess(0, 1, true), wholes(most, 1), []int64{0, 1}, false}, {guess(0, 1, true), wholes(least), []int64{-mostReading}, false}, {guess(-50, 1, true), wholes(mostReading + 50), []int64{mostReading}, true},
		{guess(0, 1, true), rising(64), rising64(64), true}, {guess(0, 1, true), rising(64), append(rising64(63), 64), false}, {guess(0, 1, true), rising(64), append([]int64{1}, rising64(64)[1:]...), false},
	} {
		got, code := impl.Explains(c.g, c.values, c.readings)
		same(t, c, got, code, c.want, impl.OK)
	}
}

// TestErrorsOfTrials has each error of values and readings, alone and together with habits and readers that are not valid, or not as many as there can be.
func TestErrorsOfTrials(t *testing.T) {
	list, good := namedReaders(12), guess(2, 1, true)
	for want, trials := range wrongTrials() {
		for _, x := range trials {
			is, code := impl.Explains(good, x.values, x.readings)
			same(t, x, is, code, false, want)
			g, code := impl.HabitOf(x.values, x.readings)
			same(t, x, g, code, Guess{}, want)
			n, code := impl.CountHabits(x.values, x.readings)
			same(t, x, n, code, 0, want)
			for _, readers := range [][]Reader{list, list[:1], nil, namedReaders(13)} {
				who, code := impl.WhoRead(readers, x.values, x.readings)
				sameList(t, x, who, code, nil, want)
				one, code := nearestReader(readers, x)
				same(t, x, one, code, nearest{}, want)
			}
			for _, bad := range []Guess{guess(51, 1, true), guess(0, 0, true), guess(math.MinInt16, math.MinInt16, false)} {
				is, code := impl.Explains(bad, x.values, x.readings)
				same(t, x, is, code, false, impl.ErrInvalid)
				for _, readers := range [][]Reader{{reader("a", bad.Bias, bad.Unit, bad.Up)}, append(namedReaders(20), reader("a", bad.Bias, bad.Unit, bad.Up))} {
					who, code := impl.WhoRead(readers, x.values, x.readings)
					sameList(t, x, who, code, nil, impl.ErrInvalid)
					one, code := nearestReader(readers, x)
					same(t, x, one, code, nearest{}, impl.ErrInvalid)
				}
			}
		}
	}
	x := trial{wholes(1, 2, 3), []int64{3, 4, 5}}
	for _, bad := range badHabits() {
		is, code := impl.Explains(bad, x.values, x.readings)
		same(t, bad, is, code, false, impl.ErrInvalid)
	}
	for _, bad := range invalidReaders() {
		for _, readers := range [][]Reader{{bad}, {list[0], bad}, {bad, list[0]}, append(namedReaders(12), bad), append(namedReaders(50), bad)} {
			who, code := impl.WhoRead(readers, x.values, x.readings)
			sameList(t, bad, who, code, nil, impl.ErrInvalid)
			one, code := nearestReader(readers, x)
			same(t, bad, one, code, nearest{}, impl.ErrInvalid)
		}
	}
}

func TestHabitOfAndCountHabits(t *testing.T) {
	told, several := map[int64]int{}, 0
	onTrials(func(x trial) {
		var habits []Guess
		want, wantCode := Guess{}, trialCode(true, x.values, x.readings)
		countCode := wantCode
		if wantCode == impl.OK {
			if habits = expectHabits(x.values, x.readings); len(habits) == 0 {
				wantCode = impl.ErrNotFound
			} else {
				want = habits[0]
			}
		}
		got, code := impl.HabitOf(x.values, x.readings)
		same(t, x, got, code, want, wantCode)
		told[code]++
		n, code := impl.CountHabits(x.values, x.readings)
		same(t, x, n, code, int64(len(habits)), countCode)
		if n > 2 {
			several++
		}
	})
	enough(t, told, 20, impl.OK, impl.ErrNotFound, impl.ErrRange, impl.ErrInvalid)
	if several < 20 {
		t.Errorf("only %d have several habits", several)
	}
}

// TestHabitOfByHand counts, for each unit that divides all readings, the biases between the greatest of all lower and the least of all upper ends.
func TestHabitOfByHand(t *testing.T) {
	for name, c := range map[string]struct {
		values   []Frac
		readings []int64
		want     Guess
		count    int64
	}{
		"the example":             {wholes(1, 2, 3), []int64{3, 4, 5}, guess(2, 1, true), 2},
		"a negative bias":         {wholes(3, 4, 5), []int64{1, 2, 3}, guess(-2, 1, true), 2},
		"one alone":               {[]Frac{frac(1, 2), whole(1)}, []int64{1, 1}, guess(0, 1, true), 1},
		"one alone, down":         {[]Frac{frac(1, 2), whole(1)}, []int64{0, 1}, guess(0, 1, false), 1},
		"the unit before all":     {wholes(9), []int64{10}, guess(1, 1, true), 36}, // 2, 4, 10 and 20, with the units 1, 2, 5 and 10
		"one reading":             {wholes(1), []int64{2}, guess(1, 1, true), 6},
		"the size of the bias":    {wholes(0, 7), []int64{0, 10}, guess(1, 5, true), 18}, // 4 and 14, with the units 5 and 10
		"the size, below 0":       {wholes(0, -7), []int64{0, -10}, guess(-1, 5, true), 18},
		"the size before Up":      {[]Frac{frac(1, 2), frac(3, 2)}, []int64{0, 1}, guess(0, 1, false), 2}, // the other one is -1, with Up
		"the size, with Up":       {[]Frac{frac(1, 2), frac(3, 2)}, []int64{1, 2}, guess(0, 1, true), 2},  // the other one is 1, without it
		"Up":                      {wholes(17), []int64{17}, guess(0, 1, true), 36},
		"Up, with a bias":         {wholes(0), []int64{17}, guess(17, 1, true), 36},
		"the greatest bias":       {wholes(0), []int64{50}, guess(50, 1, true), 22},
		"the least bias":          {wholes(0), []int64{-50}, guess(-50, 1, true), 22},
		"more than the bias":      {wholes(0), []int64{51}, guess(50, 3, true), 18},
		"the greatest unit":       {wholes(0, 11, 29), []int64{0, 20, 20}, guess(0, 20, true), 4}, // 0 twice, -1 with Up and 1 without it
		"the greatest of both":    {[]Frac{whole(0), frac(1, most)}, []int64{40, 60}, guess(50, 20, false), 1},
		"all biases of all units": {wholes(0, 0), []int64{0, 0}, guess(0, 1, true), 420},
	} {
		got, code := impl.HabitOf(c.values, c.readings)
		same(t, name, got, code, c.want, impl.OK)
		n, code := impl.CountHabits(c.values, c.readings)
		same(t, name, n, code, c.count, impl.OK)
		if habits := expectHabits(c.values, c.readings); int64(len(habits)) != c.count || habits[0] != c.want {
			t.Errorf("%s: there are %v", name, habits)
		}
	}
}

func TestNoHabit(t *testing.T) {
	for _, x := range []trial{
		{wholes(1), []int64{1000}}, {wholes(0), []int64{61}}, {wholes(0), []int64{-61}}, {wholes(0), []int64{53}}, {wholes(1, 2), []int64{2, 1}}, {wholes(1, 2, 3), []int64{3, 4, 6}}, {wholes(1, 1), []int64{1, 2}}, {wholes(0, 1), []int64{7, 9}}, {wholes(0, 21), []int64{0, 42}},
		{wholes(mostReading + 61), []int64{mostReading}}, {wholes(-mostReading - 61), []int64{-mostReading}}, {wholes(most), []int64{mostReading}}, {wholes(least), []int64{-mostReading}}, {repeated(whole(0), 64), append(repeated(int64(0), 63), 1)}, {repeated(whole(0), 64), append([]int64{1}, repeated(int64(0), 63)...)},
	} {
		got, code := impl.HabitOf(x.values, x.readings)
		same(t, x, got, code, Guess{}, impl.ErrNotFound)
		n, code := impl.CountHabits(x.values, x.readings)
		same(t, x, n, code, 0, impl.OK)
	}
	got, code := impl.HabitOf(wholes(mostReading+60), []int64{mostReading})
	same(t, "the greatest value", got, code, guess(-50, 20, false), impl.OK)
	got, code = impl.HabitOf(wholes(-mostReading-60), []int64{-mostReading})
	same(t, "the least value", got, code, guess(50, 20, true), impl.OK)
}

// readersFor returns readers, many of whom have habits that explain readings, some of them the same one.
func readersFor(x trial, n, from int) []Reader {
	list := namedReaders(n)
	habits := expectHabits(x.values, x.readings)
	for i := range list {
		k := (from + 5*i) % 7
		if len(habits) > 0 && k < 4 {
			g := habits[(from+k)%len(habits)]
			list[i].Bias, list[i].Unit, list[i].Up = g.Bias, g.Unit, g.Up
		}
		if k == 6 {
			list[i] = list[0]
		}
	}
	return list
}

func TestWhoReadAndNearestReader(t *testing.T) {
	told, several, partly := map[int64]int{}, 0, 0
	n := 0
	onTrials(func(x trial) {
		for _, size := range []int{0, 1, 2, 5, 11, 12, 13, 14} {
			n++
			list := namedReaders(size)
			wantCode := trialCode(true, x.values, x.readings)
			if wantCode == impl.OK {
				list = readersFor(x, size, n)
			}
			if wantCode == impl.OK && (size == 0 || size > 12) {
				wantCode = impl.ErrRange
			}
			var who []int64
			var one nearest
			if wantCode == impl.OK {
				one.hits = -1
				for i, r := range list {
					hits := hitsOf(guessOf(r), x.values, x.readings)
					if hits == int64(len(x.readings)) {
						who = append(who, int64(i))
					}
					if hits > one.hits {
						one = nearest{int64(i), hits}
					}
				}
			}
			got, code := impl.WhoRead(list, x.values, x.readings)
			sameList(t, []any{list, x}, got, code, who, wantCode)
			found, code := nearestReader(list, x)
			same(t, []any{list, x}, found, code, one, wantCode)
			told[code]++
			if len(who) > 1 {
				several++
			}
			if one.index > 0 && one.hits > 0 && one.hits < int64(len(x.readings)) {
				partly++
			}
		}
	})
	enough(t, told, 200, impl.OK, impl.ErrRange, impl.ErrInvalid)
	if several < 100 || partly < 20 {
		t.Errorf("%d times several have read, and %d times one nearly", several, partly)
	}
}

func TestWhoReadAndNearestReaderByHand(t *testing.T) {
	ann, bob, cai := exampleReader(), reader("bob", 0, 1, true), reader("cai", 2, 1, false)
	dan := reader("dan", 2, 1, false)
	for _, c := range []struct {
		list    []Reader
		x       trial
		who     []int64
		nearest nearest
	}{
		{[]Reader{ann, bob, cai}, trial{wholes(1, 2, 3), []int64{3, 4, 5}}, []int64{2}, nearest{2, 3}}, {[]Reader{ann, bob, cai}, trial{wholes(1, 2, 3), []int64{3, 2, 3}}, nil, nearest{1, 2}}, {[]Reader{cai, bob, ann}, trial{wholes(1, 2, 3), []int64{3, 2, 3}}, nil, nearest{1, 2}},
		{[]Reader{cai, dan, cai, ann, dan}, trial{wholes(1, 2, 3), []int64{3, 4, 5}}, []int64{0, 1, 2, 4}, nearest{0, 3}}, {[]Reader{ann, dan, cai}, trial{wholes(1, 2, 3), []int64{3, 4, 5}}, []int64{1, 2}, nearest{1, 3}}, {[]Reader{bob, bob}, trial{wholes(7), []int64{7}}, []int64{0, 1}, nearest{0, 1}},
		{[]Reader{ann, bob, cai}, trial{wholes(1), []int64{1000}}, nil, nearest{0, 0}}, {[]Reader{ann}, trial{wholes(12), []int64{15}}, []int64{0}, nearest{0, 1}}, {[]Reader{bob, ann}, trial{wholes(12, 2), []int64{15, 2}}, nil, nearest{0, 1}}, {[]Reader{ann, bob}, trial{wholes(12, 2), []int64{15, 2}}, nil, nearest{0, 1}},
		{[]Reader{bob, ann}, trial{wholes(12, 12), []int64{15, 15}}, []int64{1}, nearest{1, 2}}, {[]Reader{bob, reader("bob", 0, 1, false)}, trial{[]Frac{frac(1, 2)}, []int64{0}}, []int64{1}, nearest{1, 1}}, {[]Reader{reader("bob", 0, 1, false), bob}, trial{[]Frac{frac(1, 2)}, []int64{1}}, []int64{1}, nearest{1, 1}}, {[]Reader{reader("bob", 0, 2, true), bob}, trial{wholes(1), []int64{1}}, []int64{1}, nearest{1, 1}}, {[]Reader{reader("bob", 1, 1, true), bob}, trial{wholes(1), []int64{1}}, []int64{1}, nearest{1, 1}},
		{repeated(bob, 12), trial{rising(64), rising64(64)}, rising64(12), nearest{0, 64}}, {append(repeated(ann, 11), bob), trial{rising(64), rising64(64)}, []int64{11}, nearest{11, 64}}, {[]Reader{bob}, trial{wholes(most, 0), []int64{0, 0}}, nil, nearest{0, 1}}, {[]Reader{bob}, trial{wholes(least), []int64{-mostReading}}, nil, nearest{0, 0}},
	} {
		who, code := impl.WhoRead(c.list, c.x.values, c.x.readings)
		sameList(t, c, who, code, c.who, impl.OK)
		one, code := nearestReader(c.list, c.x)
		same(t, c, one, code, c.nearest, impl.OK)
	}
	for _, list := range [][]Reader{nil, {}, repeated(bob, 13), namedReaders(100)} {
		who, code := impl.WhoRead(list, wholes(1), []int64{1})
		sameList(t, list, who, code, nil, impl.ErrRange)
		one, code := nearestReader(list, trial{wholes(1), []int64{1}})
		same(t, list, one, code, nearest{}, impl.ErrRange)
	}
}

// TestTheSignOfTheBiasNeverDecides looks for readings that two biases of the same size explain: 0 lies between them, so that it explains these, too, and comes first.
func TestTheSignOfTheBiasNeverDecides(t *testing.T) {
	both := 0
	for _, x := range ordinaryTrials() {
		if trialCode(true, x.values, x.readings) != impl.OK {
			continue
		}
		for _, g := range orderedGuesses {
			one, _ := impl.Explains(g, x.values, x.readings)
			other, _ := impl.Explains(guess(-g.Bias, g.Unit, !g.Up), x.values, x.readings)
			if g.Bias == 0 || !one || !other {
				continue
			}
			both++
			found, code := impl.HabitOf(x.values, x.readings)
			if zero, _ := impl.Explains(guess(0, g.Unit, g.Up), x.values, x.readings); !zero || code != impl.OK || found.Unit == g.Unit && found.Bias != 0 {
				t.Errorf("%+v: the biases %d and %d explain it, and %+v is the first one", x, g.Bias, -g.Bias, found)
			}
		}
	}
	if both < 50 {
		t.Errorf("only %d have both", both)
	}
}
