package tests

import (
	"math"
	"math/big"
	"math/rand"
	"slices"
	"testing"

	"loop.example/g01254/impl"
)

func expectShareEvenly(list []Frac, total Frac) ([]Frac, int64) {
	if len(list) < 1 || len(list) > 64 {
		return nil, impl.ErrRange
	}
	var r reckoner
	share := r.over(r.minus(r.sum(rats(list)), rat(total)), big.NewRat(int64(len(list)), 1))
	var left []*big.Rat
	for _, a := range list {
		left = append(left, r.minus(rat(a), share))
	}
	return r.toldList(left)
}

// differenceLists has short and long lists of differences of all kinds.
func differenceLists() [][]Frac {
	random := rand.New(rand.NewSource(6))
	lists := [][]Frac{nil, {}, repeated(whole(0), 64), repeated(whole(0), 65), repeated(whole(most), 65), repeated(frac(1, 64), 64), repeated(whole(15625000), 64), repeated(whole(15625001), 64)}
	for n := 1; n <= 64; n++ {
		for _, from := range [][]Frac{wholes(0, 1, -1, 5, -17, 1000), smallFracs(), validFracs()} {
			var list []Frac
			for range n {
				list = append(list, from[random.Intn(len(from))])
			}
			lists = append(lists, list)
		}
	}
	return lists
}

func TestShareEvenly(t *testing.T) {
	told := map[int64]int{}
	totals := []Frac{whole(0), whole(7), frac(-1, 2), frac(5, 3), whole(most), frac(-1, most)}
	for _, list := range differenceLists() {
		for _, total := range totals {
			want, wantCode := expectShareEvenly(list, total)
			got, code := impl.ShareEvenly(list, total)
			sameList(t, []any{list, total}, got, code, want, wantCode)
			told[code]++
		}
		for _, a := range invalidFracs() {
			got, code := impl.ShareEvenly(list, a)
			sameList(t, []any{list, a}, got, code, nil, impl.ErrInvalid)
			got, code = impl.ShareEvenly(append(slices.Clone(list), a), whole(0))
			sameList(t, []any{list, a}, got, code, nil, impl.ErrInvalid)
		}
	}
	enough(t, told, 10, impl.OK, impl.ErrLimit, impl.ErrRange)
}

func TestShareEvenlyByHand(t *testing.T) {
	for _, c := range []struct {
		list  []Frac
		total Frac
		want  []Frac
		code  int64
	}{
		{wholes(1, 2, 3), whole(0), wholes(-1, 0, 1), impl.OK}, {wholes(1, 2, 3), whole(6), wholes(1, 2, 3), impl.OK}, {wholes(-1, -2, -3), whole(0), wholes(1, 0, -1), impl.OK}, {wholes(5), whole(-7), wholes(-7), impl.OK},
		{wholes(1, 0, 0), whole(0), []Frac{frac(2, 3), frac(-1, 3), frac(-1, 3)}, impl.OK}, {wholes(0, 0), frac(-1, 3), []Frac{frac(-1, 6), frac(-1, 6)}, impl.OK}, {repeated(whole(1), 64), whole(0), repeated(whole(0), 64), impl.OK},
		// The sum, its difference from the total, the quotient, and what is left, none of which is valid by little.
		{wholes(most, 1, -1), whole(0), nil, impl.ErrLimit}, {wholes(most, -1, 1), whole(most), wholes(most, -1, 1), impl.OK}, {wholes(most), whole(-1), nil, impl.ErrLimit}, {wholes(most), whole(1), wholes(1), impl.OK},
		{[]Frac{frac(1, most), whole(0)}, whole(0), nil, impl.ErrLimit}, {[]Frac{frac(1, most/2), whole(0)}, whole(0), []Frac{frac(1, most), frac(-1, most)}, impl.OK}, {[]Frac{frac(1, 999999937), frac(-1, 999999937), frac(3, 2)}, whole(0), nil, impl.ErrLimit}, {wholes(most, most/2, least), whole(0), nil, impl.ErrLimit},
		{wholes(least, 0, 3), whole(0), nil, impl.ErrLimit}, {nil, whole(0), nil, impl.ErrRange}, {repeated(whole(1), 65), whole(0), nil, impl.ErrRange}, {repeated(whole(most), 65), whole(least), nil, impl.ErrRange},
		{nil, frac(2, 4), nil, impl.ErrInvalid}, {append(repeated(whole(1), 65), Frac{}), whole(0), nil, impl.ErrInvalid}, {wholes(most, most), Frac{}, nil, impl.ErrInvalid},
	} {
		got, code := impl.ShareEvenly(c.list, c.total)
		sameList(t, []any{c.list, c.total}, got, code, c.want, c.code)
	}
}

// expectShareWhole takes 1 away from one number after the other, round by round, or adds it from the last one on.
func expectShareWhole(list []int64, total int64) ([]int64, int64) {
	isNone := func(n int64) bool { return n < -1000000000 || n > 1000000000 }
	if len(list) < 1 || len(list) > 64 || isNone(total) || slices.ContainsFunc(list, isNone) {
		return nil, impl.ErrRange
	}
	n := int64(len(list))
	closing := -total
	for _, a := range list {
		closing += a
	}
	rounds := closing / n // as many whole rounds at once, so that less than one is left
	left := slices.Clone(list)
	for i := range left {
		left[i] -= rounds
	}
	for closing -= rounds * n; closing > 0; closing-- {
		left[closing-1]--
	}
	for ; closing < 0; closing++ {
		left[n+closing]++
	}
	return left, impl.OK
}

func TestShareWhole(t *testing.T) {
	random := rand.New(rand.NewSource(7))
	uneven := map[bool]int{}
	for n := 1; n <= 66; n++ {
		for _, size := range []int64{0, 3, 100, 1000000000} {
			for range 8 {
				some := func() int64 { return random.Int63n(2*size+1) - size }
				var list []int64
				for range n {
					list = append(list, some())
				}
				total := some()
				want, wantCode := expectShareWhole(list, total)
				got, code := impl.ShareWhole(list, total)
				sameList(t, []any{list, total}, got, code, want, wantCode)
				if code == impl.OK {
					closing := -total
					for _, a := range list {
						closing += a
					}
					if closing%int64(n) != 0 {
						uneven[closing < 0]++
					}
				}
			}
		}
	}
	if uneven[true] < 300 || uneven[false] < 300 {
		t.Errorf("not divisible are %v", uneven)
	}
}

func TestShareWholeByHand(t *testing.T) {
	const far = 1000000000
	for _, c := range []struct {
		list  []int64
		total int64
		want  []int64
		code  int64
	}{
		{[]int64{10, 10, 10}, 29, []int64{9, 10, 10}, impl.OK}, {[]int64{10, 10, 10}, 28, []int64{9, 9, 10}, impl.OK}, {[]int64{10, 10, 10}, 27, []int64{9, 9, 9}, impl.OK}, {[]int64{10, 10, 10}, 30, []int64{10, 10, 10}, impl.OK},
		// Less than 0: -1 / 3 is -1, rounded down, and 1 more is taken from the first two.
		{[]int64{10, 10, 10}, 31, []int64{10, 10, 11}, impl.OK}, {[]int64{10, 10, 10}, 32, []int64{10, 11, 11}, impl.OK}, {[]int64{10, 10, 10}, 33, []int64{11, 11, 11}, impl.OK}, {[]int64{10, 10, 10}, 34, []int64{11, 11, 12}, impl.OK},
		{[]int64{0}, -5, []int64{-5}, impl.OK}, {[]int64{3, -3}, -1, []int64{2, -3}, impl.OK}, {[]int64{-4, 1}, 0, []int64{-3, 3}, impl.OK},
		{[]int64{far}, far, []int64{far}, impl.OK}, {[]int64{-far}, -far, []int64{-far}, impl.OK}, {[]int64{far}, -far, []int64{-far}, impl.OK}, {repeated(int64(far), 64), -far, repeated(int64(-far/64), 64), impl.OK}, {repeated(int64(-far), 64), far, repeated(int64(far/64), 64), impl.OK},
		// These are whole numbers, and no fractions: the first one of them could not be one.
		{[]int64{far, -far}, far, []int64{far + far/2, -far / 2}, impl.OK}, {[]int64{-far, far, far}, -far, []int64{-1666666667, 333333333, 333333334}, impl.OK},
		{nil, 0, nil, impl.ErrRange}, {[]int64{}, 0, nil, impl.ErrRange}, {repeated(int64(1), 64), 64, repeated(int64(1), 64), impl.OK}, {repeated(int64(1), 65), 65, nil, impl.ErrRange},
		{[]int64{far + 1}, 0, nil, impl.ErrRange}, {[]int64{-far - 1}, 0, nil, impl.ErrRange}, {[]int64{0, 0, far + 1}, 0, nil, impl.ErrRange}, {[]int64{0}, far + 1, nil, impl.ErrRange}, {[]int64{0}, -far - 1, nil, impl.ErrRange},
		{[]int64{math.MinInt64}, 0, nil, impl.ErrRange}, {[]int64{math.MaxInt64, math.MinInt64}, 0, nil, impl.ErrRange}, {[]int64{0}, math.MinInt64, nil, impl.ErrRange}, {[]int64{0}, math.MaxInt64, nil, impl.ErrRange}, {nil, math.MinInt64, nil, impl.ErrRange},
	} {
		got, code := impl.ShareWhole(c.list, c.total)
		sameList(t, []any{c.list, c.total}, got, code, c.want, c.code)
	}
}
