package tests

import (
	"math/big"
	"slices"
	"testing"

	"loop.example/g01254/impl"
)

// intervalScales has all valid scales, and such with 1 to 8 intervals.
func intervalScales() []Scale {
	list := append(validScales(), limitScales()...)
	for marks := 2; marks <= 9; marks++ {
		wide := even(whole(1000), marks)
		for k := range marks {
			wide.Errors[k] = frac(int64(k*k%7)-3, 31)
			if k*k%7 == 3 {
				wide.Errors[k] = whole(0)
			}
		}
		list = append(list, wide, even(whole(2), marks), uneven(frac(5, 2), marks), uneven(whole(1), marks))
	}
	return list
}

// limitScales has scales whose errors are valid, but what is made of them is not: their differences, the sum of these, or only the differences of these.
func limitScales() []Scale {
	a, b := frac(1, 31627), frac(1, 31643)
	c, d, e := frac(1, 997), frac(1, 1009), frac(1, 1013)
	var list []Scale
	for _, errors := range [][]Frac{{a, b, whole(0)}, {whole(0), a, b}, {a, b}, {a, whole(0), b}, {a, whole(0), b, whole(0), a}, {c, d, e}, {whole(0), c, d, e}} {
		list = append(list, scale(frac(1, 2), errors...))
	}
	return list
}

func TestIntervalErrors(t *testing.T) {
	told := map[int64]int{}
	for _, s := range intervalScales() {
		var r reckoner
		var list []*big.Rat
		for k := 1; k < len(s.Errors); k++ {
			list = append(list, r.minus(rat(s.Errors[k]), rat(s.Errors[k-1])))
		}
		want, wantCode := r.toldList(list)
		got, code := impl.IntervalErrors(s)
		sameList(t, s, got, code, want, wantCode)
		told[code]++
	}
	enough(t, told, 3, impl.OK, impl.ErrLimit)
	for _, s := range invalidScales() {
		got, code := impl.IntervalErrors(s)
		sameList(t, s, got, code, nil, impl.ErrInvalid)
	}
	got, code := impl.IntervalErrors(scale(whole(1), frac(1, 8), frac(-1, 8), frac(1, 4)))
	sameList(t, "by hand", got, code, []Frac{frac(-1, 4), frac(3, 8)}, impl.OK)
}

func TestRingTable(t *testing.T) {
	totals := []Frac{whole(0), frac(-7, 2), whole(most), frac(1, most)}
	for n := range 10 {
		for _, from := range [][]Frac{rising(n), repeated(frac(-1, 3), n), repeated(whole(most), n), validFracs()[:n]} {
			for _, total := range totals {
				want, wantCode := closedTable(int64(n), total), int64(impl.OK)
				for i, a := range from {
					o := obs(a)
					o.Coef[min(i, 5)]++
					o.Coef[min((i+1)%n, 5)]--
					want.Obs = append(want.Obs, o)
				}
				if n < 2 || n > impl.MaxUnknown {
					want, wantCode = Table{}, impl.ErrRange
				}
				got, code := impl.RingTable(from, total)
				sameTable(t, []any{from, total}, got, code, want, wantCode)
				if impl.ValidTable(got) != (code == impl.OK) {
					t.Errorf("%v and %v: %+v is not valid", from, total, got)
				}
			}
			for _, a := range invalidFracs() {
				got, code := impl.RingTable(from, a)
				sameTable(t, []any{from, a}, got, code, Table{}, impl.ErrInvalid)
				got, code = impl.RingTable(append(slices.Clone(from), a), whole(0))
				sameTable(t, []any{from, a}, got, code, Table{}, impl.ErrInvalid)
			}
		}
	}
}

func TestRingTableByHand(t *testing.T) {
	got, code := impl.RingTable(wholes(1, 2, -3), whole(0))
	sameTable(t, "three", got, code, closedTable(3, whole(0), obs(whole(1), 1, -1), obs(whole(2), 0, 1, -1), obs(whole(-3), -1, 0, 1)), impl.OK)
	got, code = impl.RingTable(wholes(1, 2), frac(1, 2))
	sameTable(t, "two", got, code, closedTable(2, frac(1, 2), obs(whole(1), 1, -1), obs(whole(2), -1, 1)), impl.OK)
	for _, list := range [][]Frac{nil, {}, wholes(1), rising(7)} {
		got, code = impl.RingTable(list, whole(0))
		sameTable(t, list, got, code, Table{}, impl.ErrRange)
	}
}

func expectPairTable(s Scale) (Table, int64) {
	n := len(s.Errors) - 1
	if n < 2 || n > 6 {
		return Table{}, impl.ErrRange
	}
	var r reckoner
	var list []*big.Rat
	for k := range n {
		list = append(list, r.minus(rat(s.Errors[k+1]), rat(s.Errors[k])))
	}
	total, _ := r.told(r.sum(list))
	want := closedTable(int64(n), total)
	for i := range n {
		for k := i + 1; k < n; k++ {
			diff, _ := r.told(r.minus(list[i], list[k]))
			o := obs(diff)
			o.Coef[i], o.Coef[k] = 1, -1
			want.Obs = append(want.Obs, o)
		}
	}
	if r.beyond {
		return Table{}, impl.ErrLimit
	}
	return want, impl.OK
}

func TestPairTable(t *testing.T) {
	told := map[int64]int{}
	for _, s := range intervalScales() {
		want, wantCode := expectPairTable(s)
		got, code := impl.PairTable(s)
		sameTable(t, s, got, code, want, wantCode)
		if impl.ValidTable(got) != (code == impl.OK) {
			t.Errorf("%+v: %+v is not valid", s, got)
		}
		told[code]++
	}
	enough(t, told, 6, impl.OK, impl.ErrRange, impl.ErrLimit)
	for _, s := range invalidScales() {
		got, code := impl.PairTable(s)
		sameTable(t, s, got, code, Table{}, impl.ErrInvalid)
	}
}

func TestPairTableByHand(t *testing.T) {
	far := scale(frac(1, 2), frac(1, 31627), frac(1, 31643)) // the difference of both is not valid
	more := append(slices.Clone(far.Errors), repeated(whole(0), 6)...)
	for _, c := range []struct {
		s    Scale
		want Table
		code int64
	}{
		{scale(whole(1), whole(0), frac(1, 8), frac(1, 4)), closedTable(2, frac(1, 4), obs(whole(0), 1, -1)), impl.OK},
		{scale(whole(1), frac(1, 4), frac(1, 8), frac(-1, 8), whole(0)), closedTable(3, frac(-1, 4), obs(frac(1, 8), 1, -1), obs(frac(-1, 4), 1, 0, -1), obs(frac(-3, 8), 0, 1, -1)), impl.OK},
		// 1 and 2, MaxUnknown and MaxUnknown + 1 intervals; ErrLimit comes behind ErrRange.
		{even(whole(1), 2), Table{}, impl.ErrRange}, {even(whole(1), 3), closedTable(2, whole(0), obs(whole(0), 1, -1)), impl.OK}, {even(whole(1), 8), Table{}, impl.ErrRange}, {far, Table{}, impl.ErrRange}, {scale(far.Unit, more...), Table{}, impl.ErrRange},
		{scale(far.Unit, more[:3]...), Table{}, impl.ErrLimit}, {scale(far.Unit, more[:7]...), Table{}, impl.ErrLimit}, {even(whole(1), 1), Table{}, impl.ErrInvalid},
		// The intervals and their sum are valid, but not the difference of both intervals.
		{scale(far.Unit, frac(1, 997), frac(1, 1009), frac(1, 1013)), Table{}, impl.ErrLimit}, {scale(far.Unit, frac(1, 31627), whole(0), frac(1, 31643)), Table{}, impl.ErrLimit},
	} {
		got, code := impl.PairTable(c.s)
		sameTable(t, c.s, got, code, c.want, c.code)
	}
	six, code := impl.PairTable(even(whole(1), 7))
	same(t, "six", len(six.Obs), code, 15, impl.OK)
}

func expectErrorsFrom(unit, first Frac, list []Frac) (Scale, int64) {
	if len(list) < 1 || len(list) > 59 {
		return Scale{}, impl.ErrRange
	}
	var r reckoner
	at := rat(first)
	want := scale(unit, first)
	for _, a := range list {
		at = r.plus(at, rat(a))
		e, _ := r.told(at)
		want.Errors = append(want.Errors, e)
	}
	if r.beyond {
		return Scale{}, impl.ErrLimit
	}
	quarter := new(big.Rat).Mul(rat(unit), big.NewRat(1, 4))
	if unit.P <= 0 || rat(unit).Cmp(big.NewRat(1000, 1)) > 0 || new(reckoner).worst(want).Cmp(quarter) > 0 {
		return Scale{}, impl.ErrState
	}
	if r.marks(want); r.beyond {
		return Scale{}, impl.ErrState
	}
	return want, impl.OK
}

func TestErrorsFrom(t *testing.T) {
	told := map[int64]int{}
	firsts := []Frac{whole(0), frac(1, 8), frac(-1, 20), whole(1), frac(1, 999999937)}
	for _, unit := range append(validFracs(), whole(1000), whole(1001), frac(1000001, 1000)) {
		for n, first := range firsts {
			for _, list := range [][]Frac{repeated(whole(0), 59), repeated(whole(0), 60), repeated(frac(1, 1000), 1+n), {frac(1, 20), frac(-1, 10), frac(1, 8)}, {frac(1, 20), frac(1, 7)}, {whole(most), whole(1)}, {frac(-1, 999999937)}, nil} {
				want, wantCode := expectErrorsFrom(unit, first, list)
				got, code := impl.ErrorsFrom(unit, first, list)
				sameScale(t, []any{unit, first, list}, got, code, want, wantCode)
				told[code]++
			}
		}
	}
	enough(t, told, 20, impl.OK, impl.ErrRange, impl.ErrLimit, impl.ErrState)
	for _, a := range invalidFracs() {
		for _, list := range [][]Frac{nil, wholes(0), wholes(most, 1), rising(60)} {
			for _, c := range []struct {
				unit, first Frac
				list        []Frac
			}{{a, whole(0), list}, {whole(1), a, list}, {whole(1), whole(0), append(slices.Clone(list), a)}, {whole(0), whole(0), append([]Frac{a}, list...)}} {
				got, code := impl.ErrorsFrom(c.unit, c.first, c.list)
				sameScale(t, c, got, code, Scale{}, impl.ErrInvalid)
			}
		}
	}
}

func TestErrorsFromByHand(t *testing.T) {
	for _, c := range []struct {
		unit, first Frac
		list        []Frac
		want        Scale
		code        int64
	}{
		{whole(1), whole(0), []Frac{frac(1, 8), frac(1, 8)}, scale(whole(1), whole(0), frac(1, 8), frac(1, 4)), impl.OK}, {whole(2), frac(1, 2), wholes(-1), scale(whole(2), frac(1, 2), frac(-1, 2)), impl.OK},
		{whole(1), whole(0), wholes(0), even(whole(1), 2), impl.OK}, {whole(1), whole(0), repeated(whole(0), 59), even(whole(1), 60), impl.OK}, {whole(1), whole(0), repeated(whole(0), 60), Scale{}, impl.ErrRange}, {whole(1), whole(0), nil, Scale{}, impl.ErrRange},
		// ErrLimit of a sum, and behind it ErrState: errors that are too great, a unit that is none, marks that are not valid.
		{whole(1), whole(0), wholes(most, 1), Scale{}, impl.ErrLimit}, {whole(1), whole(1), wholes(most, least), Scale{}, impl.ErrLimit}, {whole(0), whole(0), wholes(most, 1), Scale{}, impl.ErrLimit}, {whole(1), whole(0), wholes(most), Scale{}, impl.ErrState},
		{whole(1), frac(1, 3), []Frac{frac(-1, 3)}, Scale{}, impl.ErrState}, {whole(1), frac(1, 4), []Frac{frac(1, 100)}, Scale{}, impl.ErrState}, {whole(0), whole(0), wholes(0), Scale{}, impl.ErrState}, {whole(-1), whole(0), wholes(0), Scale{}, impl.ErrState}, {whole(1001), whole(0), wholes(0), Scale{}, impl.ErrState},
		{whole(1), whole(0), []Frac{frac(1, most)}, Scale{}, impl.ErrState}, {whole(1), frac(1, most), []Frac{frac(-1, most)}, scale(whole(1), frac(1, most), whole(0)), impl.OK},
		{whole(0), whole(0), repeated(whole(most), 60), Scale{}, impl.ErrRange}, {frac(0, 2), whole(0), nil, Scale{}, impl.ErrInvalid},
	} {
		got, code := impl.ErrorsFrom(c.unit, c.first, c.list)
		sameScale(t, c, got, code, c.want, c.code)
	}
}
