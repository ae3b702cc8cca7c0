package tests

import (
	"math"
	"math/big"
	"math/rand"
	"slices"
	"testing"

	"loop.example/g01254/impl"
)

// equations are rows and right sides.
type equations struct {
	rows  [][]Frac
	right []Frac
}

// someEquations returns so many equations, with numbers of some kind.
func someEquations(random *rand.Rand, n int, from []Frac) equations {
	some := func() Frac { return from[random.Intn(len(from))] }
	var e equations
	for range n {
		var row []Frac
		for range n {
			row = append(row, some())
		}
		e.rows, e.right = append(e.rows, row), append(e.right, some())
	}
	if random.Intn(4) == 0 { // without one answer: a row is another one
		e.rows[n-1] = slices.Clone(e.rows[0])
	}
	return e
}

func validEquations() []equations {
	var list []equations
	random := rand.New(rand.NewSource(5))
	for n := 1; n <= 7; n++ {
		for range 60 {
			list = append(list,
				someEquations(random, n, wholes(0, 0, 0, 1, -1, 2)),
				someEquations(random, n, wholes(0, 1, -1, 2, 3, -5)),
				someEquations(random, n, smallFracs()),
				someEquations(random, n, append(repeated(whole(0), 40), validFracs()...)))
		}
	}
	return list
}

func expectSolve(e equations) ([]Frac, int64) {
	var r reckoner
	var rows [][]*big.Rat
	for _, row := range e.rows {
		rows = append(rows, rats(row))
	}
	return r.solve(rows, rats(e.right))
}

// solves reports whether numbers are the answer of equations.
func solves(e equations, x []Frac) bool {
	for i, row := range e.rows {
		sum := new(big.Rat)
		for k, a := range row {
			sum.Add(sum, new(big.Rat).Mul(rat(a), rat(x[k])))
		}
		if sum.Cmp(rat(e.right[i])) != 0 {
			return false
		}
	}
	return len(x) == len(e.rows)
}

func TestSolveFracs(t *testing.T) {
	told := map[int64]int{}
	for _, e := range validEquations() {
		want, wantCode := expectSolve(e)
		got, code := impl.SolveFracs(e.rows, e.right)
		sameList(t, e, got, code, want, wantCode)
		if code == impl.OK && !solves(e, got) {
			t.Errorf("%v is no answer of %v", got, e)
		}
		told[code]++
	}
	enough(t, told, 100, impl.OK, impl.ErrLimit, impl.ErrState)
}

func TestSolveFracsByHand(t *testing.T) {
	tiny, prime := frac(1, 999999937), int64(999999937)
	for _, c := range []struct {
		rows  [][]Frac
		right []Frac
		want  []Frac
		code  int64
	}{
		{[][]Frac{wholes(0, 2), wholes(4, 0)}, wholes(6, 8), wholes(2, 3), impl.OK},
		{[][]Frac{wholes(2)}, wholes(7), []Frac{frac(7, 2)}, impl.OK}, {[][]Frac{wholes(-3)}, wholes(0), wholes(0), impl.OK}, {[][]Frac{wholes(0)}, wholes(0), nil, impl.ErrState}, {[][]Frac{wholes(0)}, wholes(1), nil, impl.ErrState},
		{[][]Frac{wholes(1, 2), wholes(3, 4)}, wholes(5, 6), []Frac{whole(-4), frac(9, 2)}, impl.OK},
		{[][]Frac{wholes(0, 0, 1), wholes(0, 1, 0), wholes(1, 0, 0)}, wholes(7, 8, 9), wholes(9, 8, 7), impl.OK},
		{[][]Frac{wholes(0, 0, 1), wholes(1, 0, 0), wholes(0, 1, 0)}, wholes(7, 8, 9), wholes(8, 9, 7), impl.OK},
		{[][]Frac{wholes(1, 1), wholes(2, 2)}, wholes(3, 6), nil, impl.ErrState}, {[][]Frac{wholes(1, 1), wholes(2, 2)}, wholes(3, 7), nil, impl.ErrState}, {[][]Frac{wholes(0, 1), wholes(0, 2)}, wholes(3, 6), nil, impl.ErrState},
		{[][]Frac{wholes(1, 0, 0), wholes(0, 0, 1), wholes(0, 0, 2)}, wholes(1, 2, 4), nil, impl.ErrState}, {[][]Frac{wholes(1, 0, 0), wholes(0, 1, 0), wholes(0, 0, 0)}, wholes(1, 2, 0), nil, impl.ErrState},
		// Too great on the way, although the answer would be 0 and 0.
		{[][]Frac{wholes(1, most), wholes(-1, most)}, wholes(0, 0), nil, impl.ErrLimit}, {[][]Frac{wholes(1, most), wholes(1, -most)}, wholes(0, 0), nil, impl.ErrLimit}, {[][]Frac{wholes(1, most), wholes(1, 1-most)}, wholes(0, 0), nil, impl.ErrLimit},
		// The first row whose number is not 0 comes to the first place: 2 / most is a valid quotient, and most / 2 times 3 no valid product.
		{[][]Frac{wholes(most, 0), wholes(2, 3)}, wholes(0, 3), wholes(0, 1), impl.OK}, {[][]Frac{wholes(2, 3), wholes(most, 0)}, wholes(3, 0), nil, impl.ErrLimit},
		{[][]Frac{wholes(0, 1, 0), wholes(most, 0, 0), wholes(2, 0, 3)}, wholes(5, 0, 3), wholes(0, 5, 1), impl.OK}, {[][]Frac{wholes(0, 1, 0), wholes(2, 0, 3), wholes(most, 0, 0)}, wholes(5, 3, 0), nil, impl.ErrLimit},
		// Rows above are cleared, too, for which the quotient tiny / 2 is needed; tiny times the answer 2 would be valid.
		{[][]Frac{{whole(1), tiny}, {whole(0), whole(2)}}, wholes(0, 4), nil, impl.ErrLimit}, {[][]Frac{{whole(1), whole(0)}, {tiny, whole(2)}}, wholes(1, 1), []Frac{whole(1), frac(499999968, prime)}, impl.OK},
		// The first column that cannot be done decides between ErrLimit and ErrState.
		{[][]Frac{{whole(prime), whole(1)}, {whole(1), tiny}}, []Frac{whole(1), frac(1, 2)}, nil, impl.ErrLimit}, {[][]Frac{{whole(prime), whole(1)}, {whole(1), tiny}}, wholes(1, 0), nil, impl.ErrState},
		{[][]Frac{wholes(0, prime), wholes(0, 1)}, []Frac{whole(1), frac(1, 2)}, nil, impl.ErrState}, {[][]Frac{wholes(1, most, 0), wholes(-1, most, 0), wholes(0, 0, 0)}, wholes(0, 0, 0), nil, impl.ErrLimit},
		// A quotient that is not valid, and answers that are not.
		{[][]Frac{{frac(1, most), whole(0)}, {whole(2), whole(1)}}, wholes(0, 0), nil, impl.ErrLimit}, {[][]Frac{{frac(1, most)}}, wholes(2), nil, impl.ErrLimit}, {[][]Frac{{frac(1, most)}}, wholes(1), wholes(most), impl.OK},
		{[][]Frac{{whole(2), whole(0)}, {whole(0), whole(most)}}, []Frac{whole(1), frac(1, 2)}, nil, impl.ErrLimit}, {[][]Frac{wholes(0, 1), wholes(1, 0)}, wholes(most, least), wholes(least, most), impl.OK},
	} {
		got, code := impl.SolveFracs(c.rows, c.right)
		sameList(t, []any{c.rows, c.right}, got, code, c.want, c.code)
	}
}

// identity returns the equations whose answers are their right sides.
func identity(n int) equations {
	e := equations{right: rising(n)}
	for i := range n {
		row := repeated(whole(0), n)
		row[i] = whole(1)
		e.rows = append(e.rows, row)
	}
	return e
}

// TestSolveFracsOfOtherShapes has 0 to 8 rows, and such with too few or too many numbers.
func TestSolveFracsOfOtherShapes(t *testing.T) {
	for n := range 12 {
		e := identity(n)
		want, wantCode := rising(n), int64(impl.OK)
		if n < 1 || n > impl.MaxUnknown+1 {
			want, wantCode = nil, impl.ErrRange
		}
		got, code := impl.SolveFracs(e.rows, e.right)
		sameList(t, n, got, code, want, wantCode)
		for m := range 12 {
			if m == n {
				continue
			}
			got, code = impl.SolveFracs(e.rows, rising(m))
			sameList(t, []any{"right sides", n, m}, got, code, nil, impl.ErrRange)
			for i := range n {
				other := identity(n)
				other.rows[i] = rising(m)
				got, code = impl.SolveFracs(other.rows, other.right)
				sameList(t, []any{"a row", n, m, i}, got, code, nil, impl.ErrRange)
			}
			got, code = impl.SolveFracs(identity(m).rows[:min(n, m)], rising(min(n, m)))
			if n < m {
				sameList(t, []any{"long rows", n, m}, got, code, nil, impl.ErrRange)
			}
		}
	}
	for _, e := range []equations{{}, {rows: [][]Frac{}}, {rows: [][]Frac{nil}}, {rows: [][]Frac{{}}, right: []Frac{}}, {right: wholes(1)}, {rows: [][]Frac{nil}, right: wholes(1)}, {rows: [][]Frac{nil, wholes(1)}, right: wholes(1)}} {
		got, code := impl.SolveFracs(e.rows, e.right)
		sameList(t, e, got, code, nil, impl.ErrRange)
	}
}

func TestSolveFracsOfNoFractions(t *testing.T) {
	for _, a := range invalidFracs() {
		for _, e := range []equations{
			{[][]Frac{{a}}, wholes(1)}, {[][]Frac{wholes(1)}, []Frac{a}}, {nil, []Frac{a}}, {[][]Frac{nil, {a}}, nil}, {[][]Frac{wholes(0, 0), {whole(0), a}}, wholes(0, 0)},
			{[][]Frac{wholes(1, most), wholes(-1, most)}, []Frac{whole(0), a}}, {append(identity(9).rows, []Frac{whole(1), a}), rising(9)}, {identity(8).rows, append(rising(7), a)},
		} {
			got, code := impl.SolveFracs(e.rows, e.right)
			sameList(t, e, got, code, nil, impl.ErrInvalid)
		}
	}
}

func expectCorrections(u Table) ([]Frac, int64) {
	var r reckoner
	answers, code := r.solve(r.normal(u))
	if code != impl.OK {
		return nil, code
	}
	return answers[:u.Count], impl.OK
}

func TestCorrectionsOf(t *testing.T) {
	told, closings := map[int64]int{}, map[bool]int{}
	for _, u := range validTables() {
		want, wantCode := expectCorrections(u)
		got, code := impl.CorrectionsOf(u)
		sameList(t, u, got, code, want, wantCode)
		if told[code]++; code == impl.OK {
			closings[u.Closed]++
		}
		// The same numbers with the functions of which it is made.
		if rows, right, normalCode := impl.NormalOf(u); normalCode == impl.OK {
			answers, solveCode := impl.SolveFracs(rows, right)
			sameList(t, u, got, code, answers[:min(int(u.Count), len(answers))], solveCode)
		} else if code != normalCode {
			t.Errorf("%+v: got %s, and normal equations %s", u, impl.CodeName(code), impl.CodeName(normalCode))
		}
	}
	enough(t, told, 50, impl.OK, impl.ErrLimit, impl.ErrState)
	if closings[true] < 50 || closings[false] < 50 {
		t.Errorf("closed are %v", closings)
	}
	for _, u := range invalidTables() {
		got, code := impl.CorrectionsOf(u)
		sameList(t, u, got, code, nil, impl.ErrInvalid)
	}
}

func TestCorrectionsOfByHand(t *testing.T) {
	tiny := frac(1, 999999937)
	for _, c := range []struct {
		u    Table
		want []Frac
		code int64
	}{
		{openTable(1, obs(whole(1), 1), obs(whole(2), 1), obs(whole(4), 1)), []Frac{frac(7, 3)}, impl.OK}, {openTable(1, heavy(2, whole(1), 1), obs(whole(4), 1)), wholes(2), impl.OK}, {openTable(1, obs(whole(1), -3)), []Frac{frac(-1, 3)}, impl.OK},
		{closedTable(1, frac(7, 2)), []Frac{frac(7, 2)}, impl.OK}, {closedTable(1, whole(7), obs(whole(1), 1)), wholes(7), impl.OK}, {closedTable(2, whole(5), obs(whole(1), 1), obs(whole(2), 0, 1)), wholes(2, 3), impl.OK},
		{closedTable(2, whole(5), heavy(3, whole(1), 1), obs(whole(2), 0, 1)), []Frac{frac(3, 2), frac(7, 2)}, impl.OK}, {closedTable(3, whole(0), obs(whole(1), 1, -1), obs(whole(2), 0, 1, -1), obs(whole(-3), -1, 0, 1)), []Frac{frac(4, 3), frac(1, 3), frac(-5, 3)}, impl.OK},
		{openTable(2, obs(whole(3), 1, 1), obs(whole(1), 1, -1)), wholes(2, 1), impl.OK}, {openTable(6, obs(whole(6), 0, 0, 0, 0, 0, 1), obs(whole(5), 0, 0, 0, 0, 1), obs(whole(4), 0, 0, 0, 1), obs(whole(3), 0, 0, 1), obs(whole(2), 0, 1), obs(whole(1), 1)), wholes(1, 2, 3, 4, 5, 6), impl.OK},
		// Without one answer, which ErrLimit of the normal equations, or of a column before, comes ahead of.
		{openTable(1), nil, impl.ErrState}, {openTable(2, obs(whole(1), 1, 1)), nil, impl.ErrState}, {closedTable(2, whole(5)), nil, impl.ErrState}, {openTable(6), nil, impl.ErrState}, {closedTable(3, whole(5), obs(whole(1), 1)), nil, impl.ErrState},
		{openTable(2, obs(whole(most), 2)), nil, impl.ErrLimit}, {openTable(2, obs(whole(most), 0, 2)), nil, impl.ErrLimit}, {openTable(3, obs(tiny, 1), obs(whole(0), 1, 1)), nil, impl.ErrLimit}, {openTable(3, obs(tiny, 0, 1), obs(whole(0), 0, 1, 1)), nil, impl.ErrState},
		// The answer would be valid, but not what is on the way to it; and the other way round.
		{openTable(1, obs(whole(most), 1), obs(whole(most), 1)), nil, impl.ErrLimit}, {openTable(1, obs(whole(most), 1)), wholes(most), impl.OK}, {openTable(1, obs(tiny, 2)), nil, impl.ErrLimit}, {openTable(1, obs(frac(2, 999999937), 2)), []Frac{tiny}, impl.OK},
		// The further answer of a closed table is calculated, too: 3 * most less 1 times the total.
		{closedTable(1, whole(most), obs(whole(0), 1)), wholes(most), impl.OK}, {closedTable(1, whole(most), obs(whole(0), 2)), nil, impl.ErrLimit}, {closedTable(1, whole(most), obs(whole(-1), 1)), nil, impl.ErrLimit}, {closedTable(1, whole(most), obs(whole(1), 1)), wholes(most), impl.OK},
		{Table{Count: 1}, nil, impl.ErrInvalid}, {Table{Count: math.MaxInt64, Total: whole(0)}, nil, impl.ErrInvalid},
	} {
		got, code := impl.CorrectionsOf(c.u)
		sameList(t, c.u, got, code, c.want, c.code)
	}
}
