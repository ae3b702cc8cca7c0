package tests

import (
	"math"
	"math/big"
	"testing"

	"loop.example/g01254/impl"
)

func TestCodeName(t *testing.T) {
	names := []string{"ok", "invalid", "range", "limit", "state", "syntax", "notfound", "budget", "proof"}
	codes := []int64{impl.OK, impl.ErrInvalid, impl.ErrRange, impl.ErrLimit, impl.ErrState, impl.ErrSyntax, impl.ErrNotFound, impl.ErrBudget, impl.ErrProof}
	for i, name := range names {
		if got := impl.CodeName(int64(i)); got != name || codes[i] != int64(i) {
			t.Errorf("code %d: got %q, want %q", i, got, name)
		}
	}
	for _, code := range []int64{-1, 9, 10, 256, 1 << 32, math.MaxInt64, math.MinInt64} {
		if got := impl.CodeName(code); got != "" {
			t.Errorf("code %d: got %q", code, got)
		}
	}
}

func TestValidFrac(t *testing.T) {
	for _, a := range validFracs() {
		if !impl.ValidFrac(a) {
			t.Errorf("%+v is valid", a)
		}
	}
	for _, a := range invalidFracs() {
		if impl.ValidFrac(a) {
			t.Errorf("%+v is not valid", a)
		}
	}
	for p := int64(-40); p <= 40; p++ {
		for q := int64(-40); q <= 40; q++ {
			lowest := q > 0 && new(big.Int).GCD(nil, nil, big.NewInt(max(p, -p)), big.NewInt(q)).Int64() == 1
			if impl.ValidFrac(frac(p, q)) != lowest {
				t.Errorf("%d/%d: valid is %t", p, q, !lowest)
			}
		}
	}
}

func TestMakeFrac(t *testing.T) {
	const greatest = 1000000000000000000
	parts := []int64{
		0, 1, -1, 2, -2, 3, 4, -4, 6, -6, 12, 35, -49, 1000, most, least, most + 1, least - 1, most - 1, 2 * most, -2 * most, 3 * most,
		most * 2147483, greatest, -greatest, greatest - 1, greatest + 1, -greatest - 1, math.MaxInt64, math.MinInt64, math.MinInt64 + 1,
	}
	for _, p := range parts {
		for _, q := range parts {
			var want Frac
			var code int64
			switch {
			case p < -greatest || p > greatest || q < -greatest || q > greatest:
				code = impl.ErrRange
			case q == 0:
				code = impl.ErrState
			default:
				want, code = toldRat(big.NewRat(p, q))
			}
			got, gotCode := impl.MakeFrac(p, q)
			same(t, []int64{p, q}, got, gotCode, want, code)
		}
	}
}

func TestMakeFracByHand(t *testing.T) {
	for _, c := range []struct{ p, q, wantP, wantQ, code int64 }{
		{6, -4, -3, 2, impl.OK},
		{-6, -4, 3, 2, impl.OK},
		{0, -7, 0, 1, impl.OK},
		{1000000000000000000, 1000000000, 1000000000, 1, impl.OK},
		{-1000000000000000000, -1000000000000000000, 1, 1, impl.OK},
		{1000000000000000000, -1000000000, -1000000000, 1, impl.OK},
		{1, 1000000000, 1, 1000000000, impl.OK},
		{1, 1000000001, 0, 0, impl.ErrLimit},
		{1000000001, 1, 0, 0, impl.ErrLimit},
		{-1000000001, 1, 0, 0, impl.ErrLimit},
		{1000000000000000001, 0, 0, 0, impl.ErrRange},
		{0, -1000000000000000001, 0, 0, impl.ErrRange},
		{0, 0, 0, 0, impl.ErrState},
		{1000000000000000000, 0, 0, 0, impl.ErrState},
	} {
		got, code := impl.MakeFrac(c.p, c.q)
		same(t, c, got, code, frac(c.wantP, c.wantQ), c.code)
	}
}

func TestWhole(t *testing.T) {
	for _, n := range []int64{0, 1, -1, 42, most, least, most - 1, 1 - most} {
		got, code := impl.Whole(n)
		same(t, n, got, code, whole(n), impl.OK)
	}
	for _, n := range []int64{most + 1, least - 1, math.MaxInt64, math.MinInt64, math.MinInt64 + 1} {
		got, code := impl.Whole(n)
		same(t, n, got, code, Frac{}, impl.ErrLimit)
	}
}

type operation struct {
	name string
	call func(a, b Frac) (Frac, int64)
	big  func(z, a, b *big.Rat) *big.Rat
}

func fracOperations() []operation {
	return []operation{
		{"add", impl.AddFracs, (*big.Rat).Add},
		{"sub", impl.SubFracs, (*big.Rat).Sub},
		{"mul", impl.MulFracs, (*big.Rat).Mul},
		{"div", impl.DivFracs, (*big.Rat).Quo},
	}
}

func TestOperations(t *testing.T) {
	for _, o := range fracOperations() {
		for _, a := range validFracs() {
			for _, b := range validFracs() {
				var want Frac
				code := int64(impl.ErrState)
				if o.name != "div" || b.P != 0 {
					want, code = toldRat(o.big(new(big.Rat), rat(a), rat(b)))
				}
				got, gotCode := o.call(a, b)
				same(t, []any{o.name, a, b}, got, gotCode, want, code)
			}
		}
	}
}

func TestOperationsOfInvalidFracs(t *testing.T) {
	for _, o := range fracOperations() {
		for _, a := range invalidFracs() {
			for _, b := range append(validFracs(), invalidFracs()...) {
				got, code := o.call(a, b)
				same(t, []any{o.name, a, b}, got, code, Frac{}, impl.ErrInvalid)
				got, code = o.call(b, a)
				same(t, []any{o.name, b, a}, got, code, Frac{}, impl.ErrInvalid)
			}
		}
	}
}

func TestOperationsAtTheLimit(t *testing.T) {
	for _, c := range []struct {
		name    string
		call    func(a, b Frac) (Frac, int64)
		a, b    Frac
		want    Frac
		invalid int64
	}{
		{"add", impl.AddFracs, whole(most - 1), whole(1), whole(most), impl.OK},
		{"add", impl.AddFracs, whole(most), whole(1), Frac{}, impl.ErrLimit},
		{"add", impl.AddFracs, frac(1, most-1), frac(1, most), Frac{}, impl.ErrLimit},
		{"add", impl.AddFracs, frac(1, most), frac(-1, most), whole(0), impl.OK},
		{"sub", impl.SubFracs, whole(1 - most), whole(1), whole(least), impl.OK},
		{"sub", impl.SubFracs, whole(least), whole(1), Frac{}, impl.ErrLimit},
		{"mul", impl.MulFracs, whole(most / 2), whole(2), whole(most), impl.OK},
		{"mul", impl.MulFracs, frac(1, most/2), frac(1, 2), frac(1, most), impl.OK},
		{"mul", impl.MulFracs, frac(1, most), frac(1, 2), Frac{}, impl.ErrLimit},
		{"mul", impl.MulFracs, whole(most), frac(1, most), whole(1), impl.OK},
		{"mul", impl.MulFracs, whole(least), whole(least), Frac{}, impl.ErrLimit},
		{"div", impl.DivFracs, whole(least), whole(least), whole(1), impl.OK},
		{"div", impl.DivFracs, whole(1), whole(least), frac(-1, most), impl.OK},
		{"div", impl.DivFracs, frac(1, most), frac(-1, most), whole(-1), impl.OK},
		{"div", impl.DivFracs, frac(1, most), whole(most), Frac{}, impl.ErrLimit},
		{"div", impl.DivFracs, whole(0), whole(-3), whole(0), impl.OK},
		{"div", impl.DivFracs, whole(0), whole(0), Frac{}, impl.ErrState},
		{"div", impl.DivFracs, frac(2, 4), whole(0), Frac{}, impl.ErrInvalid},
	} {
		got, code := c.call(c.a, c.b)
		same(t, []any{c.name, c.a, c.b}, got, code, c.want, c.invalid)
	}
}

func TestOperationsUndoEachOther(t *testing.T) {
	undone := 0
	for _, a := range validFracs() {
		for _, b := range validFracs() {
			for _, c := range []struct {
				name     string
				do, undo func(a, b Frac) (Frac, int64)
			}{
				{"add", impl.AddFracs, impl.SubFracs},
				{"sub", impl.SubFracs, impl.AddFracs},
				{"mul", impl.MulFracs, impl.DivFracs},
				{"div", impl.DivFracs, impl.MulFracs},
			} {
				there, code := c.do(a, b)
				if code != impl.OK || c.name == "mul" && b.P == 0 {
					continue
				}
				back, code := c.undo(there, b)
				same(t, []any{c.name, a, b}, back, code, a, impl.OK)
				undone++
			}
		}
	}
	if undone < 1000 {
		t.Errorf("only %d were told", undone)
	}
}

func TestCompareFracs(t *testing.T) {
	for _, a := range validFracs() {
		for _, b := range validFracs() {
			got, code := impl.CompareFracs(a, b)
			same(t, []Frac{a, b}, got, code, int64(rat(a).Cmp(rat(b))), impl.OK)
		}
		for _, b := range invalidFracs() {
			got, code := impl.CompareFracs(a, b)
			same(t, []Frac{a, b}, got, code, 0, impl.ErrInvalid)
			got, code = impl.CompareFracs(b, a)
			same(t, []Frac{b, a}, got, code, 0, impl.ErrInvalid)
			got, code = impl.CompareFracs(b, b)
			same(t, []Frac{b, b}, got, code, 0, impl.ErrInvalid)
		}
	}
}

func TestNearestTo(t *testing.T) {
	half := big.NewRat(1, 2)
	for _, a := range validFracs() {
		for _, unit := range validFracs() {
			var want int64
			code := int64(impl.ErrRange)
			if unit.P > 0 {
				r := new(big.Rat).Quo(rat(a), rat(unit))
				want, code = toldInt(floorRat(r.Add(r, half)))
			}
			got, gotCode := impl.NearestTo(a, unit)
			same(t, []Frac{a, unit}, got, gotCode, want, code)
		}
		for _, unit := range invalidFracs() {
			got, code := impl.NearestTo(a, unit)
			same(t, []Frac{a, unit}, got, code, 0, impl.ErrInvalid)
			got, code = impl.NearestTo(unit, a)
			same(t, []Frac{unit, a}, got, code, 0, impl.ErrInvalid)
		}
	}
}

func TestNearestToHalves(t *testing.T) {
	for _, c := range []struct {
		a, unit Frac
		want    int64
		code    int64
	}{
		{frac(7, 2), whole(1), 4, impl.OK},
		{frac(-7, 2), whole(1), -3, impl.OK},
		{frac(1, 2), whole(1), 1, impl.OK},
		{frac(-1, 2), whole(1), 0, impl.OK},
		{frac(3, 4), frac(1, 2), 2, impl.OK},
		{frac(-3, 4), frac(1, 2), -1, impl.OK},
		{whole(15), whole(10), 2, impl.OK},
		{whole(-15), whole(10), -1, impl.OK},
		{frac(49, 100), whole(1), 0, impl.OK},
		{frac(-51, 100), whole(1), -1, impl.OK},
		{frac(51, 100), whole(1), 1, impl.OK},
		{frac(-49, 100), whole(1), 0, impl.OK},
		{whole(0), frac(1, most), 0, impl.OK},
		{whole(most), whole(1), most, impl.OK},
		{whole(least), whole(1), least, impl.OK},
		{whole(1), frac(1, most), most, impl.OK},
		{whole(-1), frac(1, most), least, impl.OK},
		{whole(most), frac(most-1, most), 0, impl.ErrLimit},
		{whole(least), frac(most-1, most), 0, impl.ErrLimit},
		{whole(most), frac(1, most), 0, impl.ErrLimit},
		{whole(least), frac(1, most), 0, impl.ErrLimit},
		{whole(1), whole(0), 0, impl.ErrRange},
		{whole(1), whole(-1), 0, impl.ErrRange},
		{whole(most), frac(-1, most), 0, impl.ErrRange},
		{frac(2, 4), whole(0), 0, impl.ErrInvalid},
	} {
		got, code := impl.NearestTo(c.a, c.unit)
		same(t, []Frac{c.a, c.unit}, got, code, c.want, c.code)
	}
}

func TestNearestToIsAtMostHalfAUnitAway(t *testing.T) {
	for p := int64(-60); p <= 60; p++ {
		for q := int64(1); q <= 12; q++ {
			a, code := impl.MakeFrac(p, q)
			if code != impl.OK {
				t.Fatal(p, q)
			}
			for _, unit := range []Frac{whole(1), frac(1, 2), frac(2, 3), whole(5), frac(7, 4)} {
				n, code := impl.NearestTo(a, unit)
				away := new(big.Rat).Mul(big.NewRat(n, 1), rat(unit))
				away.Sub(away, rat(a)) // a half is allowed upward only
				half := new(big.Rat).Mul(rat(unit), big.NewRat(1, 2))
				if code != impl.OK || away.Cmp(half) > 0 || away.Cmp(half.Neg(half)) <= 0 {
					t.Errorf("%v and %v: got %d and %d", a, unit, n, code)
				}
			}
		}
	}
}

func TestFloorOf(t *testing.T) {
	for _, a := range validFracs() {
		got, code := impl.FloorOf(a)
		same(t, a, got, code, floorRat(rat(a)).Int64(), impl.OK)
	}
	for _, a := range invalidFracs() {
		got, code := impl.FloorOf(a)
		same(t, a, got, code, 0, impl.ErrInvalid)
	}
	for _, c := range []struct {
		a    Frac
		want int64
	}{{frac(-1, 2), -1}, {frac(1, 2), 0}, {whole(-3), -3}, {frac(-7, 2), -4}, {frac(7, 2), 3}, {whole(0), 0}, {frac(-1, most), -1}, {whole(least), least}} {
		got, code := impl.FloorOf(c.a)
		same(t, c.a, got, code, c.want, impl.OK)
	}
}
