package tests

import (
	"math/big"
	"testing"

	"loop.example/g01254/impl"
)

func lowOf(a, b *big.Rat) *big.Rat {
	if b.Cmp(a) < 0 {
		return b
	}
	return a
}

func highOf(a, b *big.Rat) *big.Rat {
	if b.Cmp(a) > 0 {
		return b
	}
	return a
}

func expectAddSpans(s, t Span) (Span, int64) {
	return toldSpan(new(big.Rat).Add(rat(s.Low), rat(t.Low)), new(big.Rat).Add(rat(s.High), rat(t.High)))
}

func expectSubSpans(s, t Span) (Span, int64) {
	return toldSpan(new(big.Rat).Sub(rat(s.Low), rat(t.High)), new(big.Rat).Sub(rat(s.High), rat(t.Low)))
}

func expectMulSpans(s, t Span) (Span, int64) {
	var low, high *big.Rat
	for _, a := range []Frac{s.Low, s.High} {
		for _, b := range []Frac{t.Low, t.High} {
			r := new(big.Rat).Mul(rat(a), rat(b))
			if _, code := toldRat(r); code != impl.OK {
				return Span{}, code
			}
			if low == nil {
				low, high = r, r
			}
			low, high = lowOf(low, r), highOf(high, r)
		}
	}
	return toldSpan(low, high)
}

func expectMeetSpans(s, t Span) (Span, int64) {
	low, high := highOf(rat(s.Low), rat(t.Low)), lowOf(rat(s.High), rat(t.High))
	if low.Cmp(high) > 0 {
		return Span{}, impl.ErrNotFound
	}
	return toldSpan(low, high)
}

type ofSpans struct {
	name   string
	call   func(s, t Span) (Span, int64)
	expect func(s, t Span) (Span, int64)
}

func spanFunctions() []ofSpans {
	return []ofSpans{
		{"add", impl.AddSpans, expectAddSpans},
		{"sub", impl.SubSpans, expectSubSpans},
		{"mul", impl.MulSpans, expectMulSpans},
		{"meet", impl.MeetSpans, expectMeetSpans},
	}
}

func TestValidSpan(t *testing.T) {
	for _, s := range validSpans() {
		if !impl.ValidSpan(s) {
			t.Errorf("%+v is valid", s)
		}
	}
	for _, s := range invalidSpans() {
		if impl.ValidSpan(s) {
			t.Errorf("%+v is not valid", s)
		}
	}
	for _, a := range validFracs() {
		for _, b := range validFracs() {
			if got := impl.ValidSpan(span(a, b)); got != (rat(a).Cmp(rat(b)) <= 0) {
				t.Errorf("%+v to %+v: valid is %t", a, b, got)
			}
		}
	}
}

func TestTwoSpans(t *testing.T) {
	for _, f := range spanFunctions() {
		for _, s := range validSpans() {
			for _, u := range validSpans() {
				got, code := f.call(s, u)
				want, wantCode := f.expect(s, u)
				same(t, []any{f.name, s, u}, got, code, want, wantCode)
			}
		}
	}
}

func TestTwoSpansThatAreInvalid(t *testing.T) {
	others := append([]Span{span(whole(0), whole(1)), span(whole(least), whole(most))}, invalidSpans()...)
	for _, f := range spanFunctions() {
		for _, s := range invalidSpans() {
			for _, u := range others {
				got, code := f.call(s, u)
				same(t, []any{f.name, s, u}, got, code, Span{}, impl.ErrInvalid)
				got, code = f.call(u, s)
				same(t, []any{f.name, u, s}, got, code, Span{}, impl.ErrInvalid)
			}
		}
	}
}

func TestSpansByHand(t *testing.T) {
	for _, c := range []struct {
		name string
		call func(s, t Span) (Span, int64)
		s, u Span
		want Span
		code int64
	}{
		{"mul", impl.MulSpans, span(whole(-1), whole(2)), span(whole(3), whole(4)), span(whole(-4), whole(8)), impl.OK},
		{"mul", impl.MulSpans, span(whole(-2), whole(-1)), span(whole(-4), whole(3)), span(whole(-6), whole(8)), impl.OK},
		{"mul", impl.MulSpans, span(whole(-2), whole(3)), span(whole(-5), whole(7)), span(whole(-15), whole(21)), impl.OK},
		{"mul by 0", impl.MulSpans, span(whole(0), whole(0)), span(whole(least), whole(most)), span(whole(0), whole(0)), impl.OK},
		{"mul at the limit", impl.MulSpans, span(whole(-1), whole(1)), span(whole(least), whole(most)), span(whole(least), whole(most)), impl.OK},
		{"a product inside of the span", impl.MulSpans, span(frac(1, most), whole(1)), span(frac(1, 3), whole(most)), Span{}, impl.ErrLimit},
		{"a product inside of the span", impl.MulSpans, span(frac(-1, most), whole(1)), span(frac(-1, 3), whole(most)), Span{}, impl.ErrLimit},
		{"a product inside of the span", impl.MulSpans, span(whole(-2), frac(1, most)), span(frac(1, 7), whole(9)), Span{}, impl.ErrLimit},
		{"a product inside of the span", impl.MulSpans, span(frac(1, 7), whole(9)), span(whole(-2), frac(1, most)), Span{}, impl.ErrLimit},
		{"sub", impl.SubSpans, span(whole(1), whole(2)), span(whole(10), whole(20)), span(whole(-19), whole(-8)), impl.OK},
		{"sub at the limit", impl.SubSpans, span(whole(0), whole(most)), span(whole(0), whole(most)), span(whole(least), whole(most)), impl.OK},
		{"sub beyond the limit", impl.SubSpans, span(whole(-1), whole(most)), span(whole(0), whole(most)), Span{}, impl.ErrLimit},
		{"add beyond the limit", impl.AddSpans, span(whole(0), whole(most)), span(whole(0), whole(1)), Span{}, impl.ErrLimit},
		{"add beyond the limit", impl.AddSpans, span(whole(least), whole(0)), span(whole(-1), whole(0)), Span{}, impl.ErrLimit},
		{"meet", impl.MeetSpans, span(whole(0), whole(1)), span(whole(2), whole(3)), Span{}, impl.ErrNotFound},
		{"meet", impl.MeetSpans, span(whole(2), whole(3)), span(whole(0), whole(1)), Span{}, impl.ErrNotFound},
		{"meet in one number", impl.MeetSpans, span(whole(0), whole(1)), span(whole(1), whole(3)), span(whole(1), whole(1)), impl.OK},
		{"meet inside", impl.MeetSpans, span(whole(0), whole(9)), span(whole(1), whole(3)), span(whole(1), whole(3)), impl.OK},
		{"meet nearly", impl.MeetSpans, span(whole(0), frac(most-1, most)), span(whole(1), whole(3)), Span{}, impl.ErrNotFound},
	} {
		got, code := c.call(c.s, c.u)
		same(t, []any{c.name, c.s, c.u}, got, code, c.want, c.code)
	}
}

func TestSpanAround(t *testing.T) {
	for _, a := range validFracs() {
		for _, by := range validFracs() {
			var want Span
			code := int64(impl.ErrRange)
			if by.P >= 0 {
				want, code = toldSpan(new(big.Rat).Sub(rat(a), rat(by)), new(big.Rat).Add(rat(a), rat(by)))
			}
			got, gotCode := impl.SpanAround(a, by)
			same(t, []Frac{a, by}, got, gotCode, want, code)
		}
		for _, by := range invalidFracs() {
			got, code := impl.SpanAround(a, by)
			same(t, []Frac{a, by}, got, code, Span{}, impl.ErrInvalid)
			got, code = impl.SpanAround(by, a)
			same(t, []Frac{by, a}, got, code, Span{}, impl.ErrInvalid)
		}
	}
	got, code := impl.SpanAround(whole(most), whole(0))
	same(t, "by 0", got, code, span(whole(most), whole(most)), impl.OK)
	got, code = impl.SpanAround(whole(1), frac(1, 4))
	same(t, "by 1/4", got, code, span(frac(3, 4), frac(5, 4)), impl.OK)
	got, code = impl.SpanAround(whole(most-1), whole(2))
	same(t, "High alone beyond the limit", got, code, Span{}, impl.ErrLimit)
	got, code = impl.SpanAround(whole(1-most), whole(2))
	same(t, "Low alone beyond the limit", got, code, Span{}, impl.ErrLimit)
	got, code = impl.SpanAround(whole(most), whole(-1))
	same(t, "by -1", got, code, Span{}, impl.ErrRange)
}

func TestInSpan(t *testing.T) {
	for _, s := range validSpans() {
		for _, a := range validFracs() {
			got, code := impl.InSpan(s, a)
			same(t, []any{s, a}, got, code, rat(s.Low).Cmp(rat(a)) <= 0 && rat(a).Cmp(rat(s.High)) <= 0, impl.OK)
		}
		for _, a := range invalidFracs() {
			got, code := impl.InSpan(s, a)
			same(t, []any{s, a}, got, code, false, impl.ErrInvalid)
		}
	}
	for _, s := range invalidSpans() {
		for _, a := range []Frac{whole(0), whole(1), frac(2, 4), {}} {
			got, code := impl.InSpan(s, a)
			same(t, []any{s, a}, got, code, false, impl.ErrInvalid)
		}
	}
}

func TestWidthOf(t *testing.T) {
	for _, s := range validSpans() {
		got, code := impl.WidthOf(s)
		want, wantCode := toldRat(new(big.Rat).Sub(rat(s.High), rat(s.Low)))
		same(t, s, got, code, want, wantCode)
	}
	for _, s := range invalidSpans() {
		got, code := impl.WidthOf(s)
		same(t, s, got, code, Frac{}, impl.ErrInvalid)
	}
	got, code := impl.WidthOf(span(whole(-1), whole(most)))
	same(t, "too wide", got, code, Frac{}, impl.ErrLimit)
	got, code = impl.WidthOf(span(whole(0), whole(most)))
	same(t, "as wide as can be", got, code, whole(most), impl.OK)
	got, code = impl.WidthOf(span(frac(2, 3), frac(2, 3)))
	same(t, "one number", got, code, whole(0), impl.OK)
}

func TestHullOf(t *testing.T) {
	list := validSpans()
	for _, s := range list {
		got, code := impl.HullOf([]Span{s})
		same(t, s, got, code, s, impl.OK)
		for _, u := range list {
			low, high := lowOf(rat(s.Low), rat(u.Low)), highOf(rat(s.High), rat(u.High))
			want, _ := toldSpan(low, high)
			got, code := impl.HullOf([]Span{s, u})
			same(t, []Span{s, u}, got, code, want, impl.OK)
		}
	}
	three := []Span{span(whole(2), whole(3)), span(frac(-1, 2), whole(0)), span(whole(1), frac(7, 2))}
	got, code := impl.HullOf(three)
	same(t, three, got, code, span(frac(-1, 2), frac(7, 2)), impl.OK)
}

func TestHullOfErrorsInOrder(t *testing.T) {
	one := span(whole(0), whole(1))
	for _, list := range [][]Span{nil, {}, repeated(one, impl.MaxFracs+1)} {
		got, code := impl.HullOf(list)
		same(t, len(list), got, code, Span{}, impl.ErrRange)
	}
	got, code := impl.HullOf(repeated(one, impl.MaxFracs))
	same(t, impl.MaxFracs, got, code, one, impl.OK)
	got, code = impl.HullOf(append(repeated(one, impl.MaxFracs-1), span(whole(5), whole(6))))
	same(t, "the last one counts", got, code, span(whole(0), whole(6)), impl.OK)
	for _, s := range invalidSpans() {
		for _, list := range [][]Span{{s}, {one, s}, {s, one}, append(repeated(one, impl.MaxFracs+1), s)} {
			got, code := impl.HullOf(list)
			same(t, s, got, code, Span{}, impl.ErrInvalid)
		}
	}
}
