package tests

import (
	"math/big"
	"slices"
	"testing"

	"loop.example/g01254/impl"
)

func expectSum(list []Frac) (Frac, int64) {
	sum := new(big.Rat)
	for _, a := range list {
		sum.Add(sum, rat(a))
		if _, code := toldRat(sum); code != impl.OK {
			return Frac{}, code
		}
	}
	return toldRat(sum)
}

func expectMean(list []Frac) (Frac, int64) {
	if len(list) == 0 {
		return Frac{}, impl.ErrRange
	}
	sum, code := expectSum(list)
	if code != impl.OK {
		return Frac{}, code
	}
	return toldRat(new(big.Rat).Quo(rat(sum), big.NewRat(int64(len(list)), 1)))
}

func expectMiddle(list []Frac) (Frac, int64) {
	if len(list) == 0 {
		return Frac{}, impl.ErrRange
	}
	sorted := slices.Clone(list)
	slices.SortFunc(sorted, func(a, b Frac) int { return rat(a).Cmp(rat(b)) })
	half := len(sorted) / 2
	if len(sorted)%2 == 1 {
		return sorted[half], impl.OK
	}
	return expectMean(sorted[half-1 : half+1])
}

type ofList struct {
	name   string
	call   func(list []Frac) (Frac, int64)
	expect func(list []Frac) (Frac, int64)
}

func listFunctions() []ofList {
	return []ofList{
		{"sum", impl.SumOf, expectSum},
		{"mean", impl.MeanOf, expectMean},
		{"middle", impl.MiddleOf, expectMiddle},
	}
}

// checkLists compares the three functions with what is expected of a list.
func checkLists(t *testing.T, list []Frac) {
	t.Helper()
	for _, f := range listFunctions() {
		got, code := f.call(list)
		want, wantCode := f.expect(list)
		same(t, []any{f.name, list}, got, code, want, wantCode)
	}
}

func TestShortLists(t *testing.T) {
	all := validFracs()
	some := []Frac{whole(0), whole(1), frac(-1, 2), frac(2, 3), whole(most), whole(least), frac(1, most), frac(1, most-1), whole(most / 2), whole(7)}
	checkLists(t, nil)
	checkLists(t, []Frac{})
	for _, a := range all {
		checkLists(t, []Frac{a})
		for _, b := range all {
			checkLists(t, []Frac{a, b})
		}
	}
	for _, a := range some {
		for _, b := range some {
			for _, c := range some {
				checkLists(t, []Frac{a, b, c})
				for _, d := range some {
					checkLists(t, []Frac{a, b, c, d})
				}
			}
		}
	}
}

func TestLongLists(t *testing.T) {
	for n := range impl.MaxFracs + 1 {
		list := rising(n)
		checkLists(t, list)
		slices.Reverse(list)
		checkLists(t, list)
		for i := range list {
			list[i] = frac(int64(7*i*i%31)-15, 1)
		}
		checkLists(t, list)
		checkLists(t, repeated(frac(-1, 3), n))
	}
}

func TestListsByHand(t *testing.T) {
	for _, c := range []struct {
		name string
		call func(list []Frac) (Frac, int64)
		list []Frac
		want Frac
		code int64
	}{
		{"sum", impl.SumOf, nil, whole(0), impl.OK},
		{"mean", impl.MeanOf, nil, Frac{}, impl.ErrRange},
		{"middle", impl.MiddleOf, nil, Frac{}, impl.ErrRange},
		{"sum", impl.SumOf, []Frac{frac(1, 2), frac(1, 3), frac(1, 6)}, whole(1), impl.OK},
		{"mean", impl.MeanOf, []Frac{whole(1), whole(2), whole(4)}, frac(7, 3), impl.OK},
		{"middle", impl.MiddleOf, []Frac{whole(4), whole(1), whole(2)}, whole(2), impl.OK},
		{"middle", impl.MiddleOf, []Frac{whole(9), whole(-1), whole(2), whole(1)}, frac(3, 2), impl.OK},
		{"middle", impl.MiddleOf, []Frac{whole(5), whole(1), whole(5), whole(5)}, whole(5), impl.OK},
		{"middle", impl.MiddleOf, []Frac{whole(5), whole(1), whole(1)}, whole(1), impl.OK},
		{"sum on the way", impl.SumOf, []Frac{whole(most), whole(1), whole(-1)}, Frac{}, impl.ErrLimit},
		{"sum in another order", impl.SumOf, []Frac{whole(most), whole(-1), whole(1)}, whole(most), impl.OK},
		{"sum from the first one on", impl.SumOf, []Frac{whole(-1), whole(1), whole(most)}, whole(most), impl.OK},
		{"sum of small parts on the way", impl.SumOf, []Frac{frac(1, most), frac(1, most-1), frac(-1, most-1)}, Frac{}, impl.ErrLimit},
		{"mean with a sum on the way", impl.MeanOf, []Frac{whole(most), whole(1), whole(-1)}, Frac{}, impl.ErrLimit},
		{"mean of two great ones", impl.MeanOf, []Frac{whole(most), whole(most)}, Frac{}, impl.ErrLimit},
		{"mean with too great a part", impl.MeanOf, []Frac{frac(1, most), whole(0)}, Frac{}, impl.ErrLimit},
		{"mean of one at the limit", impl.MeanOf, []Frac{whole(most)}, whole(most), impl.OK},
		{"middle of two great ones", impl.MiddleOf, []Frac{whole(most), whole(most)}, Frac{}, impl.ErrLimit},
		{"middle of three great ones", impl.MiddleOf, []Frac{whole(most), whole(most), whole(most)}, whole(most), impl.OK},
		{"middle between great ones", impl.MiddleOf, []Frac{whole(most), whole(least), whole(3), whole(2)}, frac(5, 2), impl.OK},
	} {
		got, code := c.call(c.list)
		same(t, []any{c.name, c.list}, got, code, c.want, c.code)
	}
}

func TestListErrorsInOrder(t *testing.T) {
	for _, f := range listFunctions() {
		got, code := f.call(repeated(whole(0), impl.MaxFracs))
		same(t, f.name, got, code, whole(0), impl.OK)
		got, code = f.call(repeated(whole(0), impl.MaxFracs+1))
		same(t, f.name, got, code, Frac{}, impl.ErrRange)
		got, code = f.call(repeated(whole(most), impl.MaxFracs+1))
		same(t, f.name, got, code, Frac{}, impl.ErrRange)
		for _, a := range invalidFracs() {
			got, code = f.call([]Frac{a})
			same(t, f.name, got, code, Frac{}, impl.ErrInvalid)
			got, code = f.call([]Frac{whole(most), whole(most), a})
			same(t, f.name, got, code, Frac{}, impl.ErrInvalid)
			got, code = f.call(append(repeated(whole(0), impl.MaxFracs+1), a))
			same(t, f.name, got, code, Frac{}, impl.ErrInvalid)
		}
	}
}
