package tests

import (
	"math"
	"math/big"
	"slices"
	"testing"

	"loop.example/g01254/impl"
)

func TestValidScale(t *testing.T) {
	checkValidity(t, impl.ValidScale, validScales(), invalidScales())
}

// TestValidScaleOfManyErrors compares sizes with a quarter of the unit, and marks with what is valid.
func TestValidScaleOfManyErrors(t *testing.T) {
	valid := 0
	units := []Frac{whole(1), frac(1, 3), frac(7, 5), whole(1000), frac(3, 31622), frac(1, most), frac(4, most-1), frac(999999937, 999999929), frac(most, 1000001)}
	for _, unit := range units {
		for _, e := range validFracs() {
			for _, k := range []int{0, 1, 4} {
				s := even(unit, k+2)
				s.Errors[k] = e
				var r reckoner
				r.marks(s)
				want := !r.beyond && new(big.Rat).Mul(big.NewRat(4, 1), new(big.Rat).Abs(rat(e))).Cmp(rat(unit)) <= 0
				if got := impl.ValidScale(s); got != want {
					t.Errorf("%+v: valid is %t", s, got)
				}
				if want {
					valid++
				}
			}
		}
	}
	if valid < 50 {
		t.Errorf("only %d were valid", valid)
	}
}

func TestSameScale(t *testing.T) {
	list := slices.Concat(validScales(), invalidScales())
	for i, s := range list {
		if !impl.SameScale(s, Scale{Unit: s.Unit, Errors: slices.Clone(s.Errors)}) {
			t.Errorf("%+v is the same as its copy", s)
		}
		for _, u := range list[i+1:] {
			want := s.Unit == u.Unit && slices.Equal(s.Errors, u.Errors)
			if impl.SameScale(s, u) != want || impl.SameScale(u, s) != want {
				t.Errorf("%+v and %+v: same is %t", s, u, !want)
			}
		}
	}
	for _, c := range []struct {
		s, u Scale
		want bool
	}{
		{Scale{}, Scale{}, true},
		{scale(whole(1)), Scale{Unit: whole(1), Errors: []Frac{}}, true},
		{Scale{Errors: []Frac{}}, Scale{}, true},
		{even(whole(1), 3), even(whole(2), 3), false},
		{even(whole(1), 3), even(whole(1), 2), false},
		{scale(whole(1), whole(0), frac(1, 8)), scale(whole(1), whole(0), frac(1, 9)), false},
		{even(frac(2, 4), 2), even(frac(1, 2), 2), false}, // equal values, but not deeply equal
		{even(frac(2, 4), 2), even(frac(2, 4), 2), true},
		{scale(frac(math.MinInt64, math.MaxInt64), frac(0, 0)), scale(frac(math.MinInt64, math.MaxInt64), frac(0, 0)), true},
	} {
		if impl.SameScale(c.s, c.u) != c.want || impl.SameScale(c.u, c.s) != c.want {
			t.Errorf("%+v and %+v: want %t", c.s, c.u, c.want)
		}
	}
}

func TestEvenScale(t *testing.T) {
	units := append(validFracs(), whole(1000), whole(999), frac(1000001, 1000), whole(1001), frac(999999, 1000))
	counts := []int64{0, 1, 2, 3, 4, 20, impl.MaxMarks - 1, impl.MaxMarks, impl.MaxMarks + 1, -1, -2, math.MaxInt64, math.MinInt64, 1 << 32, 1<<32 + 2}
	for _, unit := range units {
		for _, n := range counts {
			var want Scale
			code := int64(impl.ErrRange)
			if unit.P > 0 && rat(unit).Cmp(big.NewRat(1000, 1)) <= 0 && n >= 2 && n <= 60 {
				var r reckoner
				want, code = even(unit, int(n)), impl.OK
				if r.marks(want); r.beyond {
					want, code = Scale{}, impl.ErrLimit
				}
			}
			got, gotCode := impl.EvenScale(unit, n)
			sameScale(t, []any{unit, n}, got, gotCode, want, code)
		}
	}
	for _, unit := range invalidFracs() {
		for _, n := range counts {
			got, code := impl.EvenScale(unit, n)
			sameScale(t, []any{unit, n}, got, code, Scale{}, impl.ErrInvalid)
		}
	}
}

func TestEvenScaleByHand(t *testing.T) {
	for _, c := range []struct {
		unit  Frac
		marks int64
		code  int64
	}{
		{whole(1), 20, impl.OK}, {whole(1), 2, impl.OK}, {whole(1), 60, impl.OK}, {whole(1), 1, impl.ErrRange}, {whole(1), 61, impl.ErrRange},
		{whole(1000), 60, impl.OK}, {frac(1000001, 1000), 2, impl.ErrRange}, {whole(0), 2, impl.ErrRange}, {frac(-1, 2), 2, impl.ErrRange},
		{frac(most-1, most), 3, impl.OK}, {frac(most-1, most), 4, impl.ErrLimit}, {frac(most-1, most), 61, impl.ErrRange},
		{frac(2, 4), 61, impl.ErrInvalid}, {Frac{}, 0, impl.ErrInvalid},
	} {
		want := Scale{}
		if c.code == impl.OK {
			want = even(c.unit, int(c.marks))
		}
		got, code := impl.EvenScale(c.unit, c.marks)
		sameScale(t, c, got, code, want, c.code)
	}
}

func TestMarkAt(t *testing.T) {
	for _, s := range validScales() {
		for k, mark := range new(reckoner).marks(s) {
			want, _ := toldRat(mark)
			got, code := impl.MarkAt(s, int64(k))
			same(t, []any{s, k}, got, code, want, impl.OK)
		}
		n := int64(len(s.Errors))
		for _, k := range []int64{-1, -2, -n, n, n + 1, 1 << 32, math.MaxInt64, math.MinInt64} {
			got, code := impl.MarkAt(s, k)
			same(t, []any{s, k}, got, code, Frac{}, impl.ErrRange)
		}
	}
	for _, s := range invalidScales() {
		for _, k := range []int64{0, 1, -1, 60, math.MinInt64} {
			got, code := impl.MarkAt(s, k)
			same(t, []any{s, k}, got, code, Frac{}, impl.ErrInvalid)
		}
	}
	got, code := impl.MarkAt(scale(whole(2), frac(1, 2), frac(-1, 2), frac(1, 4)), 2)
	same(t, "2 * 2 + 1/4", got, code, frac(17, 4), impl.OK)
}

func TestWorstError(t *testing.T) {
	for _, s := range validScales() {
		want, _ := toldRat(new(reckoner).worst(s))
		got, code := impl.WorstError(s)
		same(t, s, got, code, want, impl.OK)
	}
	for _, s := range invalidScales() {
		got, code := impl.WorstError(s)
		same(t, s, got, code, Frac{}, impl.ErrInvalid)
	}
	for _, c := range []struct {
		s    Scale
		want Frac
	}{
		{even(whole(1), 2), whole(0)},
		{scale(whole(1), frac(-1, 4), whole(0)), frac(1, 4)},
		{scale(whole(1), frac(1, 8), frac(-1, 5), frac(1, 6)), frac(1, 5)},
		{scale(whole(1), frac(-1, 8), frac(1, 5), frac(-1, 6)), frac(1, 5)},
		{scale(whole(1), frac(-1, 8), frac(1, 6), frac(-1, 5)), frac(1, 5)},
		{scale(whole(1000), whole(250), whole(-250)), whole(250)},
	} {
		got, code := impl.WorstError(c.s)
		same(t, c.s, got, code, c.want, impl.OK)
	}
}

func TestNearestMark(t *testing.T) {
	told := map[int64]int{}
	for _, s := range validScales() {
		for _, x := range placesOn(s) {
			var r reckoner
			distances := r.distances(s, rat(x))
			want, wantCode := r.index(leastIndex(distances))
			got, code := impl.NearestMark(s, x)
			same(t, []any{s, x}, got, code, want, wantCode)
			told[code]++
		}
		for _, x := range invalidFracs() {
			got, code := impl.NearestMark(s, x)
			same(t, []any{s, x}, got, code, 0, impl.ErrInvalid)
		}
	}
	for _, s := range invalidScales() {
		for _, x := range []Frac{whole(0), whole(most), {}} {
			got, code := impl.NearestMark(s, x)
			same(t, []any{s, x}, got, code, 0, impl.ErrInvalid)
		}
	}
	if told[impl.OK] < 100 || told[impl.ErrLimit] < 20 {
		t.Errorf("told %v", told)
	}
}

func TestNearestMarkByHand(t *testing.T) {
	bent := scale(whole(1), frac(1, 4), frac(-1, 4), frac(1, 4))
	for _, c := range []struct {
		s    Scale
		x    Frac
		want int64
		code int64
	}{
		{even(whole(1), 20), frac(5, 2), 2, impl.OK}, // as near to 2 as to 3
		{even(whole(1), 20), frac(51, 20), 3, impl.OK},
		{even(whole(1), 20), frac(49, 20), 2, impl.OK},
		{even(whole(1), 20), whole(-100), 0, impl.OK},
		{even(whole(1), 20), whole(100), 19, impl.OK},
		{even(whole(1), 20), whole(7), 7, impl.OK},
		{bent, frac(1, 2), 0, impl.OK}, // as near to 1/4 as to 3/4
		{bent, frac(51, 100), 1, impl.OK},
		{bent, frac(3, 2), 1, impl.OK}, // as near to 3/4 as to 9/4
		{bent, frac(8, 5), 2, impl.OK},
		{bent, frac(7, 5), 1, impl.OK},
		{even(whole(1), 2), whole(most), 1, impl.OK},
		{even(whole(1), 2), whole(least), 0, impl.ErrLimit}, // the mark 1 is farther away than MaxPart
		{even(whole(1), 2), whole(1 - most), 0, impl.OK},
		{even(whole(1), 3), whole(1 - most), 0, impl.ErrLimit},
		{even(whole(1), 2), frac(1, most), 0, impl.OK},
		{even(whole(1), 3), frac(1, most), 0, impl.ErrLimit}, // 1999999999/1000000000 to the mark 2
		{even(whole(1), 3), frac(2, 4), 0, impl.ErrInvalid},
	} {
		got, code := impl.NearestMark(c.s, c.x)
		same(t, c, got, code, c.want, c.code)
	}
}

func expectCorrectScale(s Scale, by []Frac) (Scale, int64) {
	if len(by) != len(s.Errors) {
		return Scale{}, impl.ErrRange
	}
	var r reckoner
	want := Scale{Unit: s.Unit}
	for k, e := range s.Errors {
		a, _ := r.told(r.minus(rat(e), rat(by[k])))
		want.Errors = append(want.Errors, a)
	}
	if r.beyond {
		return Scale{}, impl.ErrLimit
	}
	r.marks(want)
	quarter := new(big.Rat).Mul(rat(s.Unit), big.NewRat(1, 4))
	if r.beyond || new(reckoner).worst(want).Cmp(quarter) > 0 {
		return Scale{}, impl.ErrState
	}
	return want, impl.OK
}

func TestCorrectScale(t *testing.T) {
	told := map[int64]int{}
	others := append(validFracs(), frac(1, 4), frac(-1, 4), frac(1, 8), frac(251, 1000), frac(1, 20))
	for _, s := range validScales() {
		var lists [][]Frac
		for _, a := range others {
			for _, k := range []int{0, len(s.Errors) - 1} {
				by := repeated(whole(0), len(s.Errors))
				by[k] = a
				lists = append(lists, by)
			}
		}
		lists = append(lists, s.Errors, nil, []Frac{}, s.Errors[1:], append(slices.Clone(s.Errors), whole(0)), repeated(whole(most), 61), repeated(frac(1, 999999937), len(s.Errors)))
		for _, by := range lists {
			want, wantCode := expectCorrectScale(s, by)
			got, code := impl.CorrectScale(s, by)
			sameScale(t, []any{s, by}, got, code, want, wantCode)
			told[code]++
		}
	}
	for _, code := range []int64{impl.OK, impl.ErrRange, impl.ErrLimit, impl.ErrState} {
		if told[code] < 50 {
			t.Errorf("told %v", told)
		}
	}
}

func TestCorrectScaleByHand(t *testing.T) {
	s := scale(whole(1), frac(1, 8), frac(-1, 8))
	for _, c := range []struct {
		s    Scale
		by   []Frac
		want []Frac
		code int64
	}{
		{scale(whole(1), whole(0), frac(1, 8)), []Frac{whole(0), frac(1, 8)}, []Frac{whole(0), whole(0)}, impl.OK},
		{s, []Frac{frac(1, 16), frac(1, 8)}, []Frac{frac(1, 16), frac(-1, 4)}, impl.OK},
		{s, []Frac{frac(3, 8), frac(-3, 8)}, []Frac{frac(-1, 4), frac(1, 4)}, impl.OK},
		{s, []Frac{frac(3, 8), frac(-2, 5)}, nil, impl.ErrState}, // 11/40 is more than 1/4
		{s, []Frac{whole(2), whole(0)}, nil, impl.ErrState},
		{s, []Frac{whole(2), frac(1, most-1)}, nil, impl.ErrLimit}, // ErrState only behind ErrLimit
		{s, []Frac{whole(0)}, nil, impl.ErrRange},
		{s, nil, nil, impl.ErrRange},
		{s, []Frac{frac(1, most-1), whole(0), whole(0)}, nil, impl.ErrRange},
		{s, []Frac{frac(2, 4), whole(0), whole(0)}, nil, impl.ErrInvalid},
		{s, []Frac{whole(0), whole(0), {}}, nil, impl.ErrInvalid},
		{even(whole(1), 3), []Frac{whole(0), whole(0), frac(1, most)}, nil, impl.ErrState}, // the mark 2 - 1/MaxPart is not valid
		{even(whole(1), 3), []Frac{whole(0), frac(1, most), whole(0)}, []Frac{whole(0), frac(-1, most), whole(0)}, impl.OK},
	} {
		var want Scale
		if c.code == impl.OK {
			want = scale(c.s.Unit, c.want...)
		}
		got, code := impl.CorrectScale(c.s, c.by)
		sameScale(t, c, got, code, want, c.code)
	}
	for _, bad := range invalidScales() {
		for _, by := range [][]Frac{nil, bad.Errors, {whole(0), whole(0)}} {
			got, code := impl.CorrectScale(bad, by)
			sameScale(t, []any{bad, by}, got, code, Scale{}, impl.ErrInvalid)
		}
	}
	for _, a := range invalidFracs() {
		for _, by := range [][]Frac{{a, whole(0)}, {whole(0), a}, {a}, {whole(most), whole(0), a}} {
			got, code := impl.CorrectScale(s, by)
			sameScale(t, by, got, code, Scale{}, impl.ErrInvalid)
		}
	}
}

func expectWarmScale(s Scale, by Frac) (Scale, int64) {
	if new(big.Rat).Abs(rat(by)).Cmp(big.NewRat(1, 10)) > 0 {
		return Scale{}, impl.ErrRange
	}
	var r reckoner
	stretch := r.plus(big.NewRat(1, 1), rat(by))
	var want Scale
	want.Unit, _ = r.told(r.times(rat(s.Unit), stretch))
	for _, e := range s.Errors {
		a, _ := r.told(r.times(rat(e), stretch))
		want.Errors = append(want.Errors, a)
	}
	if !r.beyond {
		r.marks(want)
	}
	if r.beyond || rat(want.Unit).Cmp(big.NewRat(1000, 1)) > 0 {
		return Scale{}, impl.ErrLimit
	}
	return want, impl.OK
}

func TestWarmScale(t *testing.T) {
	told := map[int64]int{}
	for _, s := range validScales() {
		for _, by := range append(validFracs(), frac(1, 10), frac(-1, 10), frac(1, 100), frac(-1, 100), frac(11, 100), frac(-11, 100), frac(100000001, most), frac(-100000001, most), frac(1, 11)) {
			want, wantCode := expectWarmScale(s, by)
			got, code := impl.WarmScale(s, by)
			sameScale(t, []any{s, by}, got, code, want, wantCode)
			told[code]++
		}
		for _, by := range invalidFracs() {
			got, code := impl.WarmScale(s, by)
			sameScale(t, []any{s, by}, got, code, Scale{}, impl.ErrInvalid)
		}
	}
	for _, s := range invalidScales() {
		for _, by := range []Frac{whole(0), whole(1), {}} {
			got, code := impl.WarmScale(s, by)
			sameScale(t, []any{s, by}, got, code, Scale{}, impl.ErrInvalid)
		}
	}
	if told[impl.OK] < 50 || told[impl.ErrRange] < 50 || told[impl.ErrLimit] < 20 {
		t.Errorf("told %v", told)
	}
}

func TestWarmScaleByHand(t *testing.T) {
	s := scale(whole(1), frac(1, 4), frac(-1, 8), whole(0))
	for _, c := range []struct {
		s    Scale
		by   Frac
		want Scale
		code int64
	}{
		{s, whole(0), s, impl.OK},
		{s, frac(1, 10), scale(frac(11, 10), frac(11, 40), frac(-11, 80), whole(0)), impl.OK},
		{s, frac(-1, 10), scale(frac(9, 10), frac(9, 40), frac(-9, 80), whole(0)), impl.OK},
		{s, frac(100000001, most), Scale{}, impl.ErrRange},
		{s, frac(-100000001, most), Scale{}, impl.ErrRange},
		{s, frac(1, 5), Scale{}, impl.ErrRange},
		{s, frac(1, most), Scale{}, impl.ErrLimit}, // 1 + by is not valid
		{even(whole(1000), 2), frac(1, 1000), Scale{}, impl.ErrLimit},
		{even(whole(1000), 2), frac(-1, 1000), even(whole(999), 2), impl.OK},
		{even(whole(1000), 2), frac(1, 9), Scale{}, impl.ErrRange},
		{even(frac(10000, 11), 2), frac(1, 10), even(whole(1000), 2), impl.OK},
		{even(frac(1, 2), 3), frac(-1, most), Scale{}, impl.ErrLimit}, // the Unit would not be valid
		{even(whole(1), 4), frac(-1, most), Scale{}, impl.ErrLimit},   // the mark 3 would not be valid
		{even(whole(1), 3), frac(-1, most), even(frac(most-1, most), 3), impl.OK},
		{s, frac(2, 20), Scale{}, impl.ErrInvalid},
	} {
		got, code := impl.WarmScale(c.s, c.by)
		sameScale(t, c, got, code, c.want, c.code)
	}
}
