package tests

import (
	"math/big"
	"testing"

	"loop.example/g01254/impl"
)

func TestResidualsOf(t *testing.T) {
	told := map[int64]int{}
	onNumbers(func(u Table, x []Frac) {
		var r reckoner
		want, wantCode := r.toldList(r.residuals(u, x))
		got, code := impl.ResidualsOf(u, x)
		sameList(t, []any{u, x}, got, code, want, wantCode)
		told[code]++
	})
	enough(t, told, 100, impl.OK, impl.ErrLimit)
	checkNumberErrors(t, func(u Table, x []Frac) int64 {
		list, code := impl.ResidualsOf(u, x)
		sameList(t, []any{u, x}, list, code, nil, code)
		return code
	})
}

func TestSquaresOf(t *testing.T) {
	told := map[int64]int{}
	onNumbers(func(u Table, x []Frac) {
		var r reckoner
		want, wantCode := r.told(r.squares(u, x))
		got, code := impl.SquaresOf(u, x)
		same(t, []any{u, x}, got, code, want, wantCode)
		told[code]++
	})
	enough(t, told, 100, impl.OK, impl.ErrLimit)
	checkNumberErrors(t, func(u Table, x []Frac) int64 {
		squares, code := impl.SquaresOf(u, x)
		same(t, []any{u, x}, squares, code, Frac{}, code)
		return code
	})
}

// worstObs is what WorstObs returns ahead of its code.
type worstObs struct {
	obs      int64
	residual Frac
}

// expectWorstObs takes the first one that is at least as great as each other one.
func expectWorstObs(u Table, x []Frac) (worstObs, int64) {
	var r reckoner
	list, code := r.toldList(r.residuals(u, x))
	if code != impl.OK {
		return worstObs{}, code
	}
	for i, a := range list {
		size, isWorst := new(big.Rat).Abs(rat(a)), true
		for _, b := range list {
			isWorst = isWorst && new(big.Rat).Abs(rat(b)).Cmp(size) <= 0
		}
		if isWorst {
			return worstObs{int64(i), a}, impl.OK
		}
	}
	return worstObs{}, impl.ErrNotFound
}

func TestWorstObs(t *testing.T) {
	told := map[int64]int{}
	onNumbers(func(u Table, x []Frac) {
		want, wantCode := expectWorstObs(u, x)
		i, residual, code := impl.WorstObs(u, x)
		same(t, []any{u, x}, worstObs{i, residual}, code, want, wantCode)
		told[code]++
	})
	enough(t, told, 40, impl.OK, impl.ErrLimit, impl.ErrNotFound)
	checkNumberErrors(t, func(u Table, x []Frac) int64 {
		i, residual, code := impl.WorstObs(u, x)
		same(t, []any{u, x}, worstObs{i, residual}, code, worstObs{}, code)
		return code
	})
}

func TestResidualsByHand(t *testing.T) {
	mean := openTable(1, obs(whole(1), 1), obs(whole(2), 1), obs(whole(4), 1))
	small := frac(1, 40000) // the square is not valid, but a hundred times it would be
	for _, c := range []struct {
		u         Table
		x         []Frac
		residuals []Frac
		code      int64
		squares   Frac
		squareOf  int64
	}{
		{mean, []Frac{frac(7, 3)}, []Frac{frac(-4, 3), frac(-1, 3), frac(5, 3)}, impl.OK, frac(14, 3), impl.OK},
		{openTable(1), wholes(5), nil, impl.OK, whole(0), impl.OK}, {closedTable(6, whole(1)), rising(6), nil, impl.OK, whole(0), impl.OK},
		{openTable(3, heavy(100, whole(10), 3, 0, -2)), wholes(1, 77, 2), wholes(11), impl.OK, whole(12100), impl.OK}, {openTable(2, heavy(3, frac(1, 2), 1, 1), obs(frac(1, 2), -1)), wholes(1, 1), []Frac{frac(-3, 2), frac(3, 2)}, impl.OK, whole(9), impl.OK},
		// Products are taken away one after the other; what has a Coef of 0 is left out.
		{openTable(2, obs(whole(most), 1, -1)), wholes(1, 1), wholes(most), impl.OK, Frac{}, impl.ErrLimit}, {openTable(2, obs(whole(most), -1, 1)), wholes(1, 1), nil, impl.ErrLimit, Frac{}, impl.ErrLimit},
		{openTable(1, obs(whole(0), 2)), wholes(most), nil, impl.ErrLimit, Frac{}, impl.ErrLimit}, {openTable(1, obs(whole(most), 2)), wholes(most / 2), wholes(0), impl.OK, whole(0), impl.OK}, {openTable(1, obs(whole(least), -1)), wholes(most), wholes(0), impl.OK, whole(0), impl.OK},
		{openTable(2, obs(frac(1, most), 1)), []Frac{whole(0), frac(1, most-1)}, []Frac{frac(1, most)}, impl.OK, Frac{}, impl.ErrLimit}, {openTable(2, obs(frac(1, most), 1, 1)), []Frac{whole(0), frac(1, most-1)}, nil, impl.ErrLimit, Frac{}, impl.ErrLimit},
		// Squares come ahead of weights, and sums are made in order.
		{openTable(1, heavy(100, small, 1)), wholes(0), []Frac{small}, impl.OK, Frac{}, impl.ErrLimit}, {openTable(1, heavy(100, frac(1, 30000), 1)), wholes(0), []Frac{frac(1, 30000)}, impl.OK, frac(1, 9000000), impl.OK},
		{openTable(1, obs(whole(31622), 1)), wholes(0), wholes(31622), impl.OK, whole(999950884), impl.OK}, {openTable(1, obs(whole(31623), 1)), wholes(0), wholes(31623), impl.OK, Frac{}, impl.ErrLimit}, {openTable(1, heavy(2, whole(-31622), 1)), wholes(0), wholes(-31622), impl.OK, Frac{}, impl.ErrLimit},
		{openTable(1, obs(whole(31622), 1), obs(whole(222), 1)), wholes(0), wholes(31622, 222), impl.OK, Frac{}, impl.ErrLimit}, {openTable(1, obs(whole(31622), 1), obs(whole(221), 1)), wholes(0), wholes(31622, 221), impl.OK, whole(999999725), impl.OK},
		{openTable(1, obs(frac(1, 31607), 1), obs(whole(1), 1)), wholes(0), []Frac{frac(1, 31607), whole(1)}, impl.OK, frac(999002450, 999002449), impl.OK}, {openTable(1, obs(frac(1, 31607), 1), obs(frac(1, 2), 1)), wholes(0), []Frac{frac(1, 31607), frac(1, 2)}, impl.OK, Frac{}, impl.ErrLimit},
	} {
		list, code := impl.ResidualsOf(c.u, c.x)
		sameList(t, []any{c.u, c.x}, list, code, c.residuals, c.code)
		squares, code := impl.SquaresOf(c.u, c.x)
		same(t, []any{c.u, c.x}, squares, code, c.squares, c.squareOf)
	}
}

func TestWorstObsByHand(t *testing.T) {
	for _, c := range []struct {
		u    Table
		x    []Frac
		want worstObs
		code int64
	}{
		{openTable(1, obs(whole(1), 1), obs(whole(2), 1), obs(whole(4), 1)), []Frac{frac(7, 3)}, worstObs{2, frac(5, 3)}, impl.OK},
		// The first one of several, with either sign; weights do not count.
		{openTable(1, obs(whole(1), 1), obs(whole(-3), 1), obs(whole(3), 1), obs(whole(-3), 1)), wholes(0), worstObs{1, whole(-3)}, impl.OK}, {openTable(1, obs(whole(1), 1), obs(whole(3), 1), obs(whole(-3), 1)), wholes(0), worstObs{1, whole(3)}, impl.OK},
		{openTable(1, heavy(100, whole(1), 1), obs(whole(2), 1)), wholes(0), worstObs{1, whole(2)}, impl.OK}, {openTable(1, obs(whole(5), 1), obs(whole(5), 1)), wholes(5), worstObs{0, whole(0)}, impl.OK}, {openTable(1, obs(whole(least), 1), obs(whole(most), 1)), wholes(0), worstObs{0, whole(least)}, impl.OK},
		{openTable(1, obs(whole(-1), 1), obs(frac(-1, 2), 1)), wholes(0), worstObs{0, whole(-1)}, impl.OK}, {openTable(1, obs(whole(1), 1), obs(whole(0), 3)), wholes(most), worstObs{}, impl.ErrLimit},
		{openTable(1), wholes(0), worstObs{}, impl.ErrNotFound}, {closedTable(2, whole(1)), wholes(0, 1), worstObs{}, impl.ErrNotFound}, {openTable(1), wholes(most), worstObs{}, impl.ErrNotFound},
		{openTable(1), nil, worstObs{}, impl.ErrRange}, {openTable(1), wholes(1, 2), worstObs{}, impl.ErrRange}, {openTable(1), []Frac{frac(2, 2)}, worstObs{}, impl.ErrInvalid}, {Table{Count: 1}, wholes(1), worstObs{}, impl.ErrInvalid},
	} {
		i, residual, code := impl.WorstObs(c.u, c.x)
		same(t, []any{c.u, c.x}, worstObs{i, residual}, code, c.want, c.code)
	}
}
