package tests

import (
	"math"
	"math/big"
	"slices"
	"testing"

	"loop.example/g01254/impl"
)

func TestValidTable(t *testing.T) {
	checkValidity(t, impl.ValidTable, validTables(), invalidTables())
}

// TestValidTableByHand has the limits, and what lies beyond them.
func TestValidTableByHand(t *testing.T) {
	one := obs(whole(1), 1)
	checkValidity(t, impl.ValidTable, []Table{
		openTable(1), openTable(impl.MaxUnknown), closedTable(1, whole(0)), closedTable(1, frac(-1, most)), {Count: 1, Obs: []Obs{}, Total: whole(0)},
		openTable(1, repeated(one, impl.MaxObs)...), openTable(1, heavy(impl.MaxWeight, whole(1), 1)), openTable(1, heavy(1, whole(1), -3)), openTable(6, heavy(1, whole(1), 0, 0, 0, 0, 0, 3)),
	}, []Table{
		openTable(0), openTable(impl.MaxUnknown + 1), openTable(-1), openTable(1, repeated(one, impl.MaxObs+1)...), openTable(1, heavy(impl.MaxWeight+1, whole(1), 1)), openTable(1, heavy(0, whole(1), 1)),
		openTable(1, obs(whole(1), 4)), openTable(1, obs(whole(1), -4)), openTable(1, obs(whole(1), math.MinInt8)), openTable(1, obs(whole(1))), openTable(1, obs(whole(1), 0, 1)), openTable(1, obs(whole(1), 1, 1)),
		openTable(5, obs(whole(1), 1, 0, 0, 0, 0, -1)), openTable(1, obs(frac(2, 2), 1)), {Count: 1, Total: whole(1)}, {Count: 1}, {Count: 1, Closed: true}, {Count: 1, Closed: true, Total: frac(0, 2)},
	})
}

func TestSameTable(t *testing.T) {
	list := append(handTables(), invalidTables()...)
	for i, a := range list {
		b := a
		b.Obs = slices.Clone(a.Obs)
		if !impl.SameTable(a, b) {
			t.Errorf("%+v is the same as its copy", a)
		}
		for _, c := range list[i+1:] {
			want := a.Count == c.Count && a.Closed == c.Closed && a.Total == c.Total && slices.Equal(a.Obs, c.Obs)
			if impl.SameTable(a, c) != want || impl.SameTable(c, a) != want {
				t.Errorf("%+v and %+v: same is %t", a, c, !want)
			}
		}
	}
	old := closedTable(2, whole(3), heavy(5, whole(6), 1, -1), heavy(7, frac(8, 9), 2, 3))
	for _, change := range []func(u *Table){
		func(u *Table) { u.Count = 3 }, func(u *Table) { u.Closed = false }, func(u *Table) { u.Total.P = 4 }, func(u *Table) { u.Total.Q = 2 },
		func(u *Table) { u.Obs = u.Obs[:1] }, func(u *Table) { u.Obs = nil }, func(u *Table) { u.Obs = append(u.Obs, Obs{}) }, func(u *Table) { slices.Reverse(u.Obs) },
		func(u *Table) { u.Obs[1].Coef[5] = 1 }, func(u *Table) { u.Obs[0].Coef[0] = -1 }, func(u *Table) { u.Obs[1].Diff.P = 7 }, func(u *Table) { u.Obs[1].Diff.Q = 7 }, func(u *Table) { u.Obs[0].Weight = 6 },
	} {
		other := old
		other.Obs = slices.Clone(old.Obs)
		change(&other)
		if impl.SameTable(old, other) || impl.SameTable(other, old) {
			t.Errorf("%+v and %+v are the same", old, other)
		}
	}
	if !impl.SameTable(Table{}, Table{Obs: []Obs{}}) || !impl.SameTable(Table{Obs: make([]Obs, 0, 5)}, Table{}) {
		t.Error("no observations and an empty list of them are not the same")
	}
	// Equal values, but not deeply equal.
	if impl.SameTable(openTable(1, obs(frac(1, 2), 1)), openTable(1, obs(frac(2, 4), 1))) {
		t.Error("1/2 and 2/4 are the same")
	}
}

// checkNormal compares rows and right sides with what is expected.
func checkNormal(t *testing.T, what Table, rows [][]Frac, right []Frac, code int64, wantRows [][]Frac, wantRight []Frac, wantCode int64) {
	t.Helper()
	if len(rows) != len(wantRows) {
		t.Errorf("%+v: got the rows %v, want %v", what, rows, wantRows)
		return
	}
	for i := range rows {
		sameList(t, []any{what, i}, rows[i], code, wantRows[i], wantCode)
	}
	sameList(t, what, right, code, wantRight, wantCode)
}

func TestNormalOf(t *testing.T) {
	told := map[int64]int{}
	for _, u := range validTables() {
		var r reckoner
		bigRows, bigRight := r.normal(u)
		var wantRows [][]Frac
		wantRight, wantCode := r.toldList(bigRight)
		if wantCode == impl.OK {
			for _, row := range bigRows {
				a, _ := r.toldList(row)
				wantRows = append(wantRows, a)
			}
		}
		rows, right, code := impl.NormalOf(u)
		checkNormal(t, u, rows, right, code, wantRows, wantRight, wantCode)
		told[code]++
	}
	enough(t, told, 20, impl.OK, impl.ErrLimit)
	for _, u := range invalidTables() {
		rows, right, code := impl.NormalOf(u)
		checkNormal(t, u, rows, right, code, nil, nil, impl.ErrInvalid)
	}
}

func wholes(list ...int64) []Frac {
	var all []Frac
	for _, n := range list {
		all = append(all, whole(n))
	}
	return all
}

func TestNormalOfByHand(t *testing.T) {
	for _, c := range []struct {
		u     Table
		rows  [][]Frac
		right []Frac
		code  int64
	}{
		{openTable(1, obs(whole(1), 1), obs(whole(2), 1), obs(whole(4), 1)), [][]Frac{wholes(3)}, wholes(7), impl.OK},
		{openTable(2), [][]Frac{wholes(0, 0), wholes(0, 0)}, wholes(0, 0), impl.OK},
		{closedTable(2, frac(5, 3)), [][]Frac{wholes(0, 0, 1), wholes(0, 0, 1), wholes(1, 1, 0)}, []Frac{whole(0), whole(0), frac(5, 3)}, impl.OK},
		{openTable(2, heavy(2, frac(1, 2), 1, -3), heavy(5, whole(1), 0, 2)), [][]Frac{wholes(2, -6), wholes(-6, 38)}, wholes(1, 7), impl.OK},
		{closedTable(2, whole(-4), heavy(2, frac(1, 2), 1, -3)), [][]Frac{wholes(2, -6, 1), wholes(-6, 18, 1), wholes(1, 1, 0)}, wholes(1, -3, -4), impl.OK},
		{openTable(1, repeated(heavy(100, whole(1), -3), 24)...), [][]Frac{wholes(21600)}, wholes(-7200), impl.OK},
		{closedTable(1, whole(7)), [][]Frac{wholes(0, 1), wholes(1, 0)}, wholes(0, 7), impl.OK},
		{openTable(1, obs(whole(most), 1)), [][]Frac{wholes(1)}, wholes(most), impl.OK},
		// A product, and a sum on the way, that are not valid.
		{openTable(1, obs(whole(most), 2)), nil, nil, impl.ErrLimit},
		{openTable(1, heavy(2, whole(most), 1)), nil, nil, impl.ErrLimit},
		{openTable(1, obs(whole(most), 1), obs(whole(1), 1), obs(whole(-1), 1)), nil, nil, impl.ErrLimit},
		{openTable(1, obs(whole(most), 1), obs(whole(-1), 1), obs(whole(1), 1)), [][]Frac{wholes(3)}, wholes(most), impl.OK},
		{openTable(1, obs(frac(1, most), 1), obs(frac(1, most-1), 1)), nil, nil, impl.ErrLimit},
		{openTable(2, obs(frac(1, most), 1), obs(frac(1, most-1), 0, 1)), [][]Frac{wholes(1, 0), wholes(0, 1)}, []Frac{frac(1, most), frac(1, most-1)}, impl.OK},
		{Table{Count: 1}, nil, nil, impl.ErrInvalid},
	} {
		rows, right, code := impl.NormalOf(c.u)
		checkNormal(t, c.u, rows, right, code, c.rows, c.right, c.code)
	}
}

func TestFreeOf(t *testing.T) {
	told, free := map[int64]int{}, map[int64]int{}
	for _, u := range validTables() {
		var r reckoner
		rows, right := r.normal(u)
		want, wantCode := r.index(r.columns(rows, right, true))
		got, code := impl.FreeOf(u)
		same(t, u, got, code, want, wantCode)
		told[code]++
		if code == impl.OK {
			same(t, []any{"what is independent", u}, got, code, expectFree(u), impl.OK)
			free[got]++
		}
	}
	enough(t, told, 20, impl.OK, impl.ErrLimit)
	for n := range int64(4) {
		if free[n] < 5 {
			t.Errorf("free are %v", free)
		}
	}
	for _, u := range invalidTables() {
		got, code := impl.FreeOf(u)
		same(t, u, got, code, 0, impl.ErrInvalid)
	}
}

func TestFreeOfByHand(t *testing.T) {
	for _, c := range []struct {
		u    Table
		want int64
		code int64
	}{
		{openTable(2, obs(whole(1), 1, 1)), 1, impl.OK}, {openTable(1), 1, impl.OK}, {openTable(6), 6, impl.OK}, {closedTable(1, whole(3)), 0, impl.OK}, {closedTable(6, whole(3)), 5, impl.OK},
		{openTable(1, obs(whole(1), 1)), 0, impl.OK}, {openTable(3, obs(whole(1), 1, -1), obs(whole(2), 0, 1, -1)), 1, impl.OK}, {closedTable(3, whole(0), obs(whole(1), 1, -1), obs(whole(2), 0, 1, -1)), 0, impl.OK},
		// The first column has no row, and the next ones take the first row.
		{openTable(3, obs(whole(1), 0, 1), obs(whole(2), 0, 0, 1)), 1, impl.OK}, {openTable(3, obs(whole(1), 0, 0, 1)), 2, impl.OK}, {closedTable(3, whole(0), obs(whole(1), 1, 1, 1)), 2, impl.OK},
		{openTable(1, obs(whole(most), 2)), 0, impl.ErrLimit}, {openTable(2, obs(whole(most), 0, 2)), 0, impl.ErrLimit},
		// Right sides are taken away, too: a half of 1/999999937 is not valid.
		{openTable(2, obs(frac(1, 999999937), 1), obs(whole(0), 1, 1)), 0, impl.ErrLimit}, {openTable(2, obs(frac(2, 999999937), 1), obs(whole(0), 1, 1)), 0, impl.OK},
		{openTable(3, obs(frac(1, 999999937), 1), obs(whole(0), 1, 1)), 0, impl.ErrLimit}, {openTable(3, obs(frac(2, 999999937), 1), obs(whole(0), 1, 1)), 1, impl.OK},
		// So are those behind a column without a row, where SolveFracs would have ended.
		{openTable(3, obs(frac(1, 999999937), 0, 1), obs(whole(0), 0, 1, 1)), 0, impl.ErrLimit}, {openTable(3, obs(frac(2, 999999937), 0, 1), obs(whole(0), 0, 1, 1)), 1, impl.OK},
		// The answer would not be valid, but nobody asks for it.
		{openTable(1, obs(frac(1, 999999937), 3)), 0, impl.OK},
		{Table{}, 0, impl.ErrInvalid},
	} {
		got, code := impl.FreeOf(c.u)
		same(t, c.u, got, code, c.want, c.code)
	}
}

func TestWithoutObs(t *testing.T) {
	for _, u := range append(handTables(), validTables()[100:200]...) {
		n := int64(len(u.Obs))
		for i := range n {
			want := u
			want.Obs = slices.Delete(slices.Clone(u.Obs), int(i), int(i+1))
			got, code := impl.WithoutObs(u, i)
			sameTable(t, []any{u, i}, got, code, want, impl.OK)
			if !impl.ValidTable(got) {
				t.Errorf("%+v without %d is not valid", u, i)
			}
		}
		for _, i := range []int64{-1, -n - 1, n, n + 1, 24, 1 << 32, math.MaxInt64, math.MinInt64} {
			got, code := impl.WithoutObs(u, i)
			sameTable(t, []any{u, i}, got, code, Table{}, impl.ErrRange)
		}
	}
	for _, u := range invalidTables() {
		for _, i := range []int64{0, 1, -1, math.MinInt64} {
			got, code := impl.WithoutObs(u, i)
			sameTable(t, []any{u, i}, got, code, Table{}, impl.ErrInvalid)
		}
	}
}

func TestWithoutObsByHand(t *testing.T) {
	a, b, c := obs(whole(1), 1), obs(whole(2), 1), heavy(9, whole(4), 1)
	for i, want := range []Table{closedTable(1, whole(7), b, c), closedTable(1, whole(7), a, c), closedTable(1, whole(7), a, b)} {
		got, code := impl.WithoutObs(closedTable(1, whole(7), a, b, c), int64(i))
		sameTable(t, i, got, code, want, impl.OK)
	}
	got, code := impl.WithoutObs(openTable(1, a), 0)
	sameTable(t, "the last one", got, code, openTable(1), impl.OK)
}

// expectLeast compares the sum of squares on all ways from the numbers that the table allows: it is least where it does not change at first.
func expectLeast(u Table, x []Frac) bool {
	residuals := new(reckoner).residuals(u, x)
	slope := func(k int64) *big.Rat {
		sum := new(big.Rat)
		for i, o := range u.Obs {
			sum.Add(sum, new(big.Rat).Mul(residuals[i], big.NewRat(o.Weight*int64(o.Coef[k]), 1)))
		}
		return sum
	}
	for k := range u.Count {
		way := slope(k)
		if u.Closed {
			way.Sub(way, slope(0)) // one number more, and the first one less
		}
		if way.Sign() != 0 {
			return false
		}
	}
	return !u.Closed || new(reckoner).sum(rats(x)).Cmp(rat(u.Total)) == 0
}

func expectIsLeast(u Table, x []Frac) (bool, int64) {
	var r reckoner
	rows, right := r.normal(u)
	for i := range u.Count {
		rest := right[i]
		for k, a := range x {
			rest = r.minus(rest, r.times(rows[i][k], rat(a)))
		}
	}
	if u.Closed {
		r.sum(rats(x))
	}
	if r.beyond {
		return false, impl.ErrLimit
	}
	return expectLeast(u, x), impl.OK
}

func TestIsLeast(t *testing.T) {
	told, least, away := map[int64]int{}, map[bool]int{}, map[bool]int{}
	onNumbers(func(u Table, x []Frac) {
		want, wantCode := expectIsLeast(u, x)
		got, code := impl.IsLeast(u, x)
		same(t, []any{u, x}, got, code, want, wantCode)
		told[code]++
		if got {
			least[u.Closed]++
		} else if code == impl.OK {
			away[u.Closed]++
		}
	})
	enough(t, told, 100, impl.OK, impl.ErrLimit)
	if least[true] < 50 || least[false] < 50 || away[true] < 50 || away[false] < 50 {
		t.Errorf("least %v, and not %v", least, away)
	}
	checkNumberErrors(t, func(u Table, x []Frac) int64 {
		isLeast, code := impl.IsLeast(u, x)
		if isLeast {
			t.Errorf("%+v and %v: an error, but least", u, x)
		}
		return code
	})
}

func TestIsLeastByHand(t *testing.T) {
	mean := openTable(1, obs(whole(1), 1), obs(whole(2), 1), obs(whole(4), 1))
	sum := openTable(2, obs(whole(1), 1, 1))
	ring := closedTable(2, whole(5), obs(whole(1), 1), obs(whole(2), 0, 1))
	for _, c := range []struct {
		u    Table
		x    []Frac
		want bool
		code int64
	}{
		{mean, []Frac{frac(7, 3)}, true, impl.OK}, {mean, wholes(2), false, impl.OK}, {mean, wholes(0), false, impl.OK},
		// Several numbers are least where they are free.
		{sum, wholes(1, 0), true, impl.OK}, {sum, wholes(-6, 7), true, impl.OK}, {sum, wholes(1, 1), false, impl.OK}, {openTable(3), wholes(1, 2, 3), true, impl.OK}, {closedTable(3, whole(6)), wholes(1, 2, 3), true, impl.OK}, {closedTable(3, whole(7)), wholes(1, 2, 3), false, impl.OK},
		// All are off by the same, but not by 0: least in a closed table, if the sum is the total, and not in an open one.
		{ring, wholes(2, 3), true, impl.OK}, {ring, wholes(1, 2), false, impl.OK}, {ring, wholes(3, 2), false, impl.OK}, {openTable(2, ring.Obs...), wholes(2, 3), false, impl.OK}, {openTable(2, ring.Obs...), wholes(1, 2), true, impl.OK},
		{closedTable(1, whole(7), obs(whole(1), 1)), wholes(7), true, impl.OK}, {closedTable(1, whole(7), obs(whole(1), 1)), wholes(1), false, impl.OK},
		// Only the last ones differ.
		{openTable(3, obs(whole(1), 1), obs(whole(1), 0, 1), obs(whole(1), 0, 0, 1)), wholes(1, 1, 2), false, impl.OK}, {closedTable(3, whole(4), obs(whole(1), 1), obs(whole(1), 0, 1), obs(whole(1), 0, 0, 1)), wholes(1, 1, 2), false, impl.OK},
		// The sum is not valid on the way, whether it would be compared or not.
		{closedTable(3, whole(most)), wholes(most, 1, -1), false, impl.ErrLimit}, {closedTable(3, whole(most)), wholes(most, -1, 1), true, impl.OK}, {openTable(3), wholes(most, 1, -1), true, impl.OK},
		{closedTable(2, whole(0), obs(whole(1), 1, -1)), wholes(most/2, most), false, impl.ErrLimit}, {mean, wholes(most), false, impl.ErrLimit}, {mean, wholes(most / 3), false, impl.OK},
		{mean, nil, false, impl.ErrRange}, {mean, wholes(1, 2), false, impl.ErrRange}, {mean, []Frac{frac(2, 4), whole(0)}, false, impl.ErrInvalid}, {Table{}, nil, false, impl.ErrInvalid},
	} {
		got, code := impl.IsLeast(c.u, c.x)
		same(t, []any{c.u, c.x}, got, code, c.want, c.code)
	}
}
