package tests

import (
	"math"
	"math/big"
	"runtime"
	"testing"

	"loop.example/g01254/impl"
)

// The names of the document, for shorter tests.
type (
	Frac = impl.Frac
	Span = impl.Span
)

const (
	most  = impl.MaxPart
	least = -impl.MaxPart
)

func frac(p, q int64) Frac { return Frac{P: p, Q: q} }

func whole(n int64) Frac { return Frac{P: n, Q: 1} }

func span(low, high Frac) Span { return Span{Low: low, High: high} }

// validFracs has ordinary fractions, halves of both signs, and those at the limits.
func validFracs() []Frac {
	return []Frac{
		whole(0), whole(1), whole(-1), whole(2), whole(-2), whole(7), whole(-10),
		frac(1, 2), frac(-1, 2), frac(3, 2), frac(-3, 2), frac(7, 2), frac(-7, 2), frac(5, 2), frac(-5, 2),
		frac(1, 3), frac(-1, 3), frac(2, 3), frac(-2, 3), frac(3, 4), frac(-7, 6), frac(13, 10), frac(99, 100),
		whole(most), whole(least), frac(1, most), frac(-1, most),
		frac(most-1, most), frac(1-most, most), frac(most, most-1), frac(least, most-1),
		whole(most - 1), whole(1 - most), frac(1, most-1), whole(most / 2), frac(1, most/2), frac(most-1, 2), frac(1-most, 2),
		whole(31622), whole(-31623), frac(31623, 31622), frac(65536, 390625), frac(-999999937, 999999929),
	}
}

// invalidFracs has parts that are too great by one or by far, and common divisors.
func invalidFracs() []Frac {
	return []Frac{
		frac(0, 0), frac(1, 0), frac(0, 2), frac(0, most), frac(2, 4), frac(-2, 4), frac(most, most), frac(least, 2),
		frac(1, -1), frac(1, -2), frac(-1, -2), frac(0, -1), frac(6, -4),
		whole(most + 1), whole(least - 1), frac(1, most+1), frac(-1, most+1), frac(most+1, most), frac(1, least),
		whole(math.MaxInt64), whole(math.MinInt64), frac(1, math.MaxInt64), frac(1, math.MinInt64),
		frac(math.MinInt64, math.MinInt64), frac(math.MaxInt64, math.MaxInt64), frac(math.MinInt64, math.MaxInt64),
		frac(math.MaxInt64, math.MinInt64), frac(math.MinInt64, 0), frac(0, math.MinInt64), frac(0, math.MaxInt64),
	}
}

// validSpans has every pair of some fractions that is in order.
func validSpans() []Span {
	ends := []Frac{
		whole(least), whole(least / 2), whole(-31623), whole(-2), frac(-1, 2), frac(-1, most), whole(0),
		frac(1, most), frac(1, 3), whole(1), frac(7, 2), whole(31622), whole(most / 2), whole(most),
	}
	var list []Span
	for i, low := range ends {
		for _, high := range ends[i:] {
			list = append(list, span(low, high))
		}
	}
	return list
}

func invalidSpans() []Span {
	list := []Span{span(whole(1), whole(0)), span(frac(1, 2), frac(1, 3)), span(whole(0), frac(-1, most)), span(whole(most), whole(least)), {}}
	for _, a := range invalidFracs() {
		list = append(list, span(a, whole(1)), span(whole(-1), a), span(a, a))
	}
	return list
}

func rat(a Frac) *big.Rat { return big.NewRat(a.P, a.Q) }

// toldRat returns what a function has to tell of a value: ErrLimit if it has no valid fraction.
func toldRat(r *big.Rat) (Frac, int64) {
	limit := big.NewInt(impl.MaxPart)
	if r.Num().CmpAbs(limit) > 0 || r.Denom().Cmp(limit) > 0 {
		return Frac{}, impl.ErrLimit
	}
	return Frac{P: r.Num().Int64(), Q: r.Denom().Int64()}, impl.OK
}

// toldSpan is toldRat for both ends of a span.
func toldSpan(low, high *big.Rat) (Span, int64) {
	a, one := toldRat(low)
	b, two := toldRat(high)
	if one != impl.OK || two != impl.OK {
		return Span{}, impl.ErrLimit
	}
	return span(a, b), impl.OK
}

// floorRat returns the greatest integer that is at most r.
func floorRat(r *big.Rat) *big.Int {
	return new(big.Int).Div(r.Num(), r.Denom()) // the denominator is positive, so that Div rounds down
}

func toldInt(n *big.Int) (int64, int64) {
	if n.CmpAbs(big.NewInt(impl.MaxPart)) > 0 {
		return 0, impl.ErrLimit
	}
	return n.Int64(), impl.OK
}

// same fails if a result and its code are not those that are expected.
func same[T comparable](t *testing.T, what any, got T, code int64, want T, wantCode int64) {
	t.Helper()
	if got != want || code != wantCode {
		t.Errorf("%+v: got %+v and %s, want %+v and %s", what, got, impl.CodeName(code), want, impl.CodeName(wantCode))
	}
}

// rising returns so many fractions 0, 1, 2 ..
func rising(n int) []Frac {
	list := make([]Frac, n)
	for i := range list {
		list[i] = whole(int64(i))
	}
	return list
}

// repeated returns so many times the same item.
func repeated[T any](x T, n int) []T {
	list := make([]T, n)
	for i := range list {
		list[i] = x
	}
	return list
}

// nearly calls check with a text, and with what it is if a byte is left out, put in, or changed.
func nearly(text string, letters []string, check func(text string)) {
	check(text)
	for i := range text {
		check(text[:i])
		check(text[i:])
		check(text[:i] + text[i+1:])
		for _, letter := range letters {
			check(text[:i] + letter + text[i:])
			check(text[:i] + letter + text[i+1:])
		}
	}
	for _, letter := range letters {
		check(text + letter)
	}
}

// waitUntilThereAre fails if there stay more goroutines than there were before.
func waitUntilThereAre(t *testing.T, before int) {
	t.Helper()
	for range 1000000 {
		if runtime.NumGoroutine() <= before {
			return
		}
		runtime.Gosched()
	}
	t.Errorf("there were %d goroutines, and are %d", before, runtime.NumGoroutine())
}
