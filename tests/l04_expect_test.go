package tests

import (
	"math"
	"math/big"
	"math/rand"
	"slices"
	"testing"

	"loop.example/g01254/impl"
)

// The names of chapter 4, for shorter tests.
type (
	Obs   = impl.Obs
	Table = impl.Table
)

// obs returns an observation with the weight 1.
func obs(diff Frac, coef ...int8) Obs { return heavy(1, diff, coef...) }

func heavy(weight int64, diff Frac, coef ...int8) Obs {
	o := Obs{Diff: diff, Weight: weight}
	copy(o.Coef[:], coef)
	return o
}

func openTable(count int64, list ...Obs) Table {
	return Table{Count: count, Obs: list, Total: whole(0)}
}

func closedTable(count int64, total Frac, list ...Obs) Table {
	return Table{Count: count, Obs: list, Closed: true, Total: total}
}

// someObs returns an observation of so many unknown numbers, many of which it leaves out.
func someObs(random *rand.Rand, count int64, diffs []Frac) Obs {
	o := heavy(1+random.Int63n(3), diffs[random.Intn(len(diffs))])
	if random.Intn(8) == 0 {
		o.Weight = 1 + random.Int63n(100)
	}
	for k := range count {
		if random.Intn(2) == 0 {
			o.Coef[k] = int8(random.Intn(7) - 3)
		}
	}
	if o.Coef == [6]int8{} {
		o.Coef[random.Int63n(count)] = int8(1 - 2*random.Intn(2))
	}
	return o
}

func someTable(random *rand.Rand, diffs []Frac) Table {
	t := openTable(1 + random.Int63n(6))
	if t.Closed = random.Intn(2) == 0; t.Closed {
		t.Total = diffs[random.Intn(len(diffs))]
	}
	for range random.Intn(25) {
		t.Obs = append(t.Obs, someObs(random, t.Count, diffs))
		if random.Intn(10) == 0 {
			break
		}
	}
	return t
}

func smallFracs() []Frac {
	return []Frac{whole(0), whole(1), whole(-1), whole(2), whole(3), whole(-7), frac(1, 2), frac(-1, 3), frac(5, 4), frac(-7, 6), frac(13, 10)}
}

// handTables are small, and at the limits.
func handTables() []Table {
	return []Table{
		openTable(1), openTable(2), openTable(6), closedTable(1, whole(0)), closedTable(1, frac(7, 2)), closedTable(2, whole(5)), closedTable(6, frac(-7, 2)),
		openTable(1, obs(whole(1), 1), obs(whole(2), 1), obs(whole(4), 1)), openTable(2, obs(whole(1), 1, 1)), openTable(2, obs(whole(1), 1, -1)),
		openTable(2, obs(whole(1), 0, 1), obs(whole(2), 1)), openTable(2, obs(whole(1), 0, 1)), openTable(3, obs(whole(1), 0, 0, -3)), openTable(3, obs(whole(1), 3, -3), obs(whole(2), 0, 3, -3)),
		openTable(2, heavy(100, frac(1, 2), 3, -3), heavy(1, frac(1, 3), -3, 3)), openTable(2, heavy(100, whole(9), 1), heavy(99, whole(-9), 1, 1)),
		closedTable(2, whole(5), obs(whole(1), 1), obs(whole(2), 0, 1)), closedTable(2, whole(5), obs(whole(1), 1)), closedTable(3, whole(0), obs(whole(1), 1, -1), obs(whole(2), 0, 1, -1), obs(whole(-3), -1, 0, 1)),
		closedTable(3, whole(1), obs(whole(1), 1, 1, 1), obs(whole(2), 1, 1, 1)), closedTable(1, whole(most), obs(whole(least), 3)), closedTable(1, frac(1, most), obs(frac(-1, most), -3)),
		openTable(1, repeated(heavy(100, whole(100), 3), 24)...), openTable(6, repeated(heavy(100, frac(1, 7), 3, -3, 3, -3, 3, -3), 24)...), openTable(1, obs(whole(most), 1)), openTable(1, obs(whole(most), 2)),
		openTable(1, obs(frac(1, most), 3)), openTable(1, obs(frac(1, most), 1), obs(frac(1, most-1), 1)), openTable(1, obs(whole(most), 1), obs(whole(1), 1), obs(whole(-1), 1)), openTable(1, obs(whole(most), 1), obs(whole(-1), 1), obs(whole(1), 1)),
		openTable(2, obs(frac(1, 999999937), 1), obs(frac(1, 999999929), 0, 1)), openTable(2, obs(frac(1, 999999937), 1, 1), obs(frac(1, 2), 1, 2)), closedTable(2, frac(1, 999999937), obs(frac(1, 2), 1, -1)),
	}
}

// validTables has those by hand, and such with numbers of all kinds.
func validTables() []Table {
	list := handTables()
	random := rand.New(rand.NewSource(4))
	for range 300 {
		list = append(list, someTable(random, smallFracs()))
	}
	for range 150 {
		list = append(list, someTable(random, []Frac{whole(0), whole(1), frac(1, 31), frac(-2, 37), frac(7, 41), frac(1, 43), whole(1000), frac(3, 1009)}))
	}
	for range 50 {
		list = append(list, someTable(random, validFracs()))
	}
	return list
}

// invalidTables has one reason for each table not to be valid.
func invalidTables() []Table {
	list := []Table{
		{}, {Count: 1}, {Count: 1, Total: frac(0, 2)}, {Count: 1, Closed: true}, openTable(0), closedTable(0, whole(0)), openTable(7), closedTable(7, whole(0)), openTable(-1), openTable(1<<32 + 1),
		openTable(math.MaxInt64), openTable(math.MinInt64), openTable(math.MinInt64, obs(whole(1), 1)), openTable(7, obs(whole(1), 1)), openTable(0, obs(whole(1), 1)),
		{Count: 1, Total: whole(1)}, {Count: 1, Total: frac(-1, most)}, {Count: 2, Obs: []Obs{obs(whole(1), 1)}, Total: whole(1)},
		openTable(1, repeated(obs(whole(1), 1), 25)...), openTable(6, repeated(obs(whole(1), 1), 100)...), closedTable(1, whole(0), repeated(obs(whole(1), 1), 25)...),
	}
	for count := range int64(6) {
		for k := range 6 {
			for _, c := range []int8{4, -4, 5, 100, -100, math.MaxInt8, math.MinInt8, math.MinInt8 + 1} {
				bad := obs(whole(1), 1)
				bad.Coef[k] = c
				list = append(list, openTable(count+1, bad))
			}
			if int64(k) > count {
				for _, c := range []int8{1, -1, 3, -3} {
					bad := obs(whole(1), 1)
					bad.Coef[k] = c
					list = append(list, openTable(count+1, bad), openTable(count+1, obs(whole(1), 1), bad))
				}
			}
		}
		list = append(list, openTable(count+1, obs(whole(1))), closedTable(count+1, whole(0), obs(whole(1), 1), obs(whole(1))))
	}
	for _, w := range []int64{0, -1, 101, -100, 1<<32 + 1, math.MaxInt64, math.MinInt64, math.MinInt64 + 1} {
		list = append(list, openTable(1, heavy(w, whole(1), 1)), openTable(2, obs(whole(1), 1), heavy(w, whole(1), 0, 1)))
	}
	for _, a := range invalidFracs() {
		list = append(list, Table{Count: 1, Total: a}, closedTable(1, a), openTable(1, obs(a, 1)), closedTable(2, whole(0), obs(whole(1), 1), obs(a, 0, 1)))
	}
	return list
}

// numbersFor returns numbers for a table, among them those that could be the answer.
func numbersFor(t Table, random *rand.Rand) [][]Frac {
	n := int(t.Count)
	lists := [][]Frac{repeated(whole(0), n), rising(n), repeated(frac(-1, 2), n), repeated(frac(7, 3), n), repeated(whole(most), n), repeated(frac(1, most), n)}
	if x, code := impl.CorrectionsOf(t); code == impl.OK {
		away := slices.Clone(x)
		away[0], _ = impl.AddFracs(away[0], frac(1, 2))
		lists = append(lists, x)
		if impl.ValidFrac(away[0]) {
			lists = append(lists, away)
		}
	}
	for _, from := range [][]Frac{smallFracs(), validFracs()} {
		x := make([]Frac, n)
		for k := range x {
			x[k] = from[random.Intn(len(from))]
		}
		lists = append(lists, x)
	}
	return lists
}

// wrongNumbers returns numbers of which there are too few or too many for a table.
func wrongNumbers(t Table) [][]Frac {
	n := int(t.Count)
	return [][]Frac{nil, {}, rising(n - 1), rising(n + 1), repeated(whole(most), n+1), rising(64), repeated(frac(1, most-1), 100)}
}

// onNumbers calls check with valid tables, and with as many numbers as they have.
func onNumbers(check func(t Table, x []Frac)) {
	random := rand.New(rand.NewSource(44))
	for _, t := range validTables() {
		for _, x := range numbersFor(t, random) {
			check(t, x)
		}
	}
}

// checkNumberErrors fails unless tables and numbers that are not valid, and then wrong numbers, are told.
func checkNumberErrors(t *testing.T, codeOf func(u Table, x []Frac) int64) {
	t.Helper()
	fail := func(u Table, x []Frac, want int64) {
		t.Helper()
		if code := codeOf(u, x); code != want {
			t.Errorf("%+v and %v: got %s, want %s", u, x, impl.CodeName(code), impl.CodeName(want))
		}
	}
	for _, u := range invalidTables() {
		for _, x := range [][]Frac{nil, {whole(0)}, {frac(2, 4)}, rising(int(min(max(u.Count, 0), 9)))} {
			fail(u, x, impl.ErrInvalid)
		}
	}
	for _, u := range handTables() {
		for _, x := range wrongNumbers(u) {
			fail(u, x, impl.ErrRange)
			for _, a := range []Frac{{}, frac(2, 4), whole(most + 1), whole(math.MinInt64), frac(1, -1)} {
				fail(u, append(slices.Clone(x), a), impl.ErrInvalid)
			}
		}
		for _, a := range invalidFracs() {
			x := rising(int(u.Count))
			x[u.Count-1] = a
			fail(u, x, impl.ErrInvalid)
			x = repeated(whole(most), int(u.Count))
			x[0] = a
			fail(u, x, impl.ErrInvalid)
		}
	}
}

func rats(list []Frac) []*big.Rat {
	var all []*big.Rat
	for _, a := range list {
		all = append(all, rat(a))
	}
	return all
}

// toldList returns what a function tells of numbers, if it has no other error.
func (r *reckoner) toldList(list []*big.Rat) ([]Frac, int64) {
	var all []Frac
	for _, x := range list {
		a, _ := r.told(x)
		all = append(all, a)
	}
	if r.beyond {
		return nil, impl.ErrLimit
	}
	return all, impl.OK
}

func (r *reckoner) sum(list []*big.Rat) *big.Rat {
	sum := new(big.Rat)
	for _, a := range list {
		sum = r.plus(sum, a)
	}
	return sum
}

// normal returns the rows and the right sides of the normal equations.
func (r *reckoner) normal(t Table) ([][]*big.Rat, []*big.Rat) {
	var rows [][]*big.Rat
	var right []*big.Rat
	for i := range t.Count {
		row, side := make([]*big.Rat, t.Count), new(big.Rat)
		for k := range row {
			row[k] = new(big.Rat)
			for _, o := range t.Obs {
				row[k].Add(row[k], big.NewRat(o.Weight*int64(o.Coef[i])*int64(o.Coef[k]), 1))
			}
		}
		for _, o := range t.Obs {
			side = r.plus(side, r.times(big.NewRat(o.Weight*int64(o.Coef[i]), 1), rat(o.Diff)))
		}
		if t.Closed {
			row = append(row, big.NewRat(1, 1))
		}
		rows, right = append(rows, row), append(right, side)
	}
	if t.Closed {
		last := append(rats(repeated(whole(1), int(t.Count))), new(big.Rat))
		rows, right = append(rows, last), append(right, rat(t.Total))
	}
	return rows, right
}

// columns eliminates, and returns how many columns have no row. If it does not go on it ends at the first one.
func (r *reckoner) columns(rows [][]*big.Rat, right []*big.Rat, goesOn bool) int64 {
	free, at := int64(0), 0
	for c := range rows {
		found := slices.IndexFunc(rows[at:], func(row []*big.Rat) bool { return row[c].Sign() != 0 })
		if found < 0 {
			free++
			if !goesOn {
				return free
			}
			continue
		}
		rows[at], rows[at+found] = rows[at+found], rows[at]
		right[at], right[at+found] = right[at+found], right[at]
		for i := range rows {
			if i == at || rows[i][c].Sign() == 0 {
				continue
			}
			q := r.over(rows[i][c], rows[at][c])
			for k := c; k < len(rows); k++ {
				rows[i][k] = r.minus(rows[i][k], r.times(q, rows[at][k]))
			}
			right[i] = r.minus(right[i], r.times(q, right[at]))
		}
		at++
	}
	return free
}

func (r *reckoner) solve(rows [][]*big.Rat, right []*big.Rat) ([]Frac, int64) {
	free := r.columns(rows, right, false)
	if r.beyond {
		return nil, impl.ErrLimit
	}
	if free != 0 {
		return nil, impl.ErrState
	}
	var answers []*big.Rat
	for k := range rows {
		answers = append(answers, r.over(right[k], rows[k][k]))
	}
	return r.toldList(answers)
}

func (r *reckoner) residuals(t Table, x []Frac) []*big.Rat {
	var list []*big.Rat
	for _, o := range t.Obs {
		rest := rat(o.Diff)
		for k, c := range o.Coef[:t.Count] {
			if c != 0 {
				rest = r.minus(rest, r.times(big.NewRat(int64(c), 1), rat(x[k])))
			}
		}
		list = append(list, rest)
	}
	return list
}

func (r *reckoner) squares(t Table, x []Frac) *big.Rat {
	sum := new(big.Rat)
	for i, rest := range r.residuals(t, x) {
		sum = r.plus(sum, r.times(r.times(rest, rest), big.NewRat(t.Obs[i].Weight, 1)))
	}
	return sum
}

// rankOf returns how many of some rows are independent of those before.
func rankOf(rows [][]*big.Rat) int64 {
	var kept [][]*big.Rat
	var leads []int
	for _, row := range rows {
		row = slices.Clone(row)
		for i, other := range kept {
			q := new(big.Rat).Quo(row[leads[i]], other[leads[i]])
			for k := range row {
				row[k] = new(big.Rat).Sub(row[k], new(big.Rat).Mul(q, other[k]))
			}
		}
		if lead := slices.IndexFunc(row, func(a *big.Rat) bool { return a.Sign() != 0 }); lead >= 0 {
			kept, leads = append(kept, row), append(leads, lead)
		}
	}
	return int64(len(kept))
}

// expectFree returns how many unknown numbers of a table can be chosen: what the observations, and the total, leave of them.
func expectFree(t Table) int64 {
	var rows [][]*big.Rat
	for _, o := range t.Obs {
		var row []*big.Rat
		for _, c := range o.Coef[:t.Count] {
			row = append(row, big.NewRat(int64(c), 1))
		}
		rows = append(rows, row)
	}
	if t.Closed {
		rows = append(rows, rats(repeated(whole(1), int(t.Count))))
	}
	return t.Count - rankOf(rows)
}

// sameTable fails if a table and its code are not those that are expected.
func sameTable(t *testing.T, what any, got Table, code int64, want Table, wantCode int64) {
	t.Helper()
	if got.Count != want.Count || got.Closed != want.Closed || got.Total != want.Total || !slices.Equal(got.Obs, want.Obs) || code != wantCode {
		t.Errorf("%+v: got %+v and %s, want %+v and %s", what, got, impl.CodeName(code), want, impl.CodeName(wantCode))
	}
}

// enough fails unless each of some codes has been told so many times.
func enough(t *testing.T, told map[int64]int, times int, codes ...int64) {
	t.Helper()
	for _, code := range codes {
		if told[code] < times {
			t.Errorf("told %v, of which %s is too seldom", told, impl.CodeName(code))
		}
	}
}
