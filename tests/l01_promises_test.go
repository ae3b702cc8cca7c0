package tests

import (
	"math"
	"reflect"
	"slices"
	"testing"

	"loop.example/g01254/impl"
)

// TestPromise1EveryFunctionReturns calls every function of chapter 1 twice, with arguments of all kinds.
func TestPromise1EveryFunctionReturns(t *testing.T) {
	fracs := append(validFracs(), invalidFracs()...)
	for i, a := range fracs {
		b := fracs[(7*i+3)%len(fracs)]
		twice(t, func() any { return impl.ValidFrac(a) })
		twice(t, func() any { return impl.FracText(a) })
		twice(t, func() any { return impl.CodeName(a.P) })
		twice(t, func() any { return results(impl.MakeFrac(a.P, b.P)) })
		twice(t, func() any { return results(impl.Whole(a.P)) })
		twice(t, func() any { return results(impl.FloorOf(a)) })
		twice(t, func() any { return results(impl.CompareFracs(a, b)) })
		twice(t, func() any { return results(impl.NearestTo(a, b)) })
		twice(t, func() any { return results(impl.SpanAround(a, b)) })
		for _, o := range fracOperations() {
			twice(t, func() any { return results(o.call(a, b)) })
		}
		s, u := span(a, b), span(b, fracs[(5*i+1)%len(fracs)])
		twice(t, func() any { return impl.ValidSpan(s) })
		twice(t, func() any { return impl.SpanText(s) })
		twice(t, func() any { return results(impl.InSpan(s, a)) })
		twice(t, func() any { return results(impl.WidthOf(s)) })
		for _, f := range spanFunctions() {
			twice(t, func() any { return results(f.call(s, u)) })
		}
		twice(t, func() any { return results(impl.HullOf([]Span{s, u})) })
		twice(t, func() any { return results(impl.SumOf([]Frac{a, b})) })
		twice(t, func() any { return results(impl.MeanOf([]Frac{a, b, a})) })
		twice(t, func() any { return results(impl.MiddleOf([]Frac{a, b})) })
		twice(t, func() any { return results(impl.ReadFrac(impl.FracText(a) + "/")) })
		twice(t, func() any { return results(impl.ReadSpan(impl.SpanText(s) + ".")) })
	}
}

type pair struct {
	value any
	code  int64
}

func results[T any](value T, code int64) any { return pair{value, code} }

// twice fails if two equal calls have different results.
func twice(t *testing.T, call func() any) {
	t.Helper()
	if one, two := call(), call(); !reflect.DeepEqual(one, two) {
		t.Errorf("got %+v, then %+v", one, two)
	}
}

func TestPromise1NoListIsModified(t *testing.T) {
	// The list is the beginning of a longer one, whose end must not change, either.
	long := []Frac{whole(9), whole(-3), frac(1, 2), whole(4), whole(0), whole(-3), whole(77), whole(78), whole(-79)}
	before := slices.Clone(long)
	for n := range len(long) {
		for _, f := range listFunctions() {
			first, code := f.call(long[:n])
			again, codeAgain := f.call(slices.Clone(long[:n]))
			same(t, f.name, again, codeAgain, first, code)
			if !slices.Equal(long, before) {
				t.Fatalf("%s of %d: the list has become %v", f.name, n, long)
			}
		}
	}
	spans := []Span{span(whole(3), whole(4)), span(whole(-1), whole(0)), span(whole(5), whole(6)), span(whole(-9), whole(9))}
	old := slices.Clone(spans)
	for n := range len(spans) {
		impl.HullOf(spans[:n])
		if !slices.Equal(spans, old) {
			t.Fatalf("hull of %d: the list has become %v", n, spans)
		}
	}
}

func TestPromise1NilIsEmpty(t *testing.T) {
	for _, f := range listFunctions() {
		one, code := f.call(nil)
		two, codeTwo := f.call(make([]Frac, 0, 5))
		same(t, f.name, two, codeTwo, one, code)
	}
}

func TestPromise1VeryLongLists(t *testing.T) {
	const elements = 1000000
	for _, f := range listFunctions() {
		got, code := f.call(repeated(whole(1), elements))
		same(t, f.name, got, code, Frac{}, impl.ErrRange)
		got, code = f.call(append(repeated(whole(1), elements-1), frac(math.MinInt64, math.MinInt64)))
		same(t, f.name, got, code, Frac{}, impl.ErrInvalid)
	}
	got, code := impl.HullOf(repeated(span(whole(0), whole(1)), elements/4))
	same(t, "hull", got, code, Span{}, impl.ErrRange)
}

// numbersOf returns some numbers of a span, among them its ends.
func numbersOf(s Span) []Frac {
	list := []Frac{s.Low, s.High}
	if mean, code := impl.MeanOf(list); code == impl.OK {
		list = append(list, mean)
	}
	for _, a := range validFracs() {
		if in, _ := impl.InSpan(s, a); in {
			list = append(list, a)
		}
	}
	return list
}

// TestPromise2NumbersLieInTheirSpans checks sums, differences and products of numbers of spans.
func TestPromise2NumbersLieInTheirSpans(t *testing.T) {
	checked := 0
	spans := validSpans()
	for i, s := range spans {
		for k := i % 3; k < len(spans); k += 3 {
			u := spans[k]
			for _, c := range []struct {
				name   string
				spans  func(s, t Span) (Span, int64)
				number func(a, b Frac) (Frac, int64)
			}{
				{"add", impl.AddSpans, impl.AddFracs},
				{"sub", impl.SubSpans, impl.SubFracs},
				{"mul", impl.MulSpans, impl.MulFracs},
			} {
				joined, code := c.spans(s, u)
				if code != impl.OK {
					continue
				}
				checked += lieIn(t, c.name, joined, numbersOf(s), numbersOf(u), c.number)
			}
		}
	}
	if checked < 10000 {
		t.Errorf("only %d numbers were told", checked)
	}
}

// lieIn fails if a number made of two lies outside of a span, or an end of the span is none of them.
func lieIn(t *testing.T, name string, s Span, one, two []Frac, number func(a, b Frac) (Frac, int64)) int {
	t.Helper()
	told := map[Frac]bool{}
	for _, a := range one {
		for _, b := range two {
			n, code := number(a, b)
			if code != impl.OK {
				continue
			}
			told[n] = true
			if in, code := impl.InSpan(s, n); !in || code != impl.OK {
				t.Errorf("%s %v and %v: %v is not in %v", name, a, b, n, s)
			}
		}
	}
	if !told[s.Low] || !told[s.High] {
		t.Errorf("%s: %v is not the least span", name, s)
	}
	return len(told)
}

func TestPromise2MeetAndHull(t *testing.T) {
	for _, s := range validSpans() {
		for _, u := range validSpans() {
			both, code := impl.MeetSpans(s, u)
			hull, _ := impl.HullOf([]Span{s, u})
			for _, a := range validFracs() {
				inS, _ := impl.InSpan(s, a)
				inU, _ := impl.InSpan(u, a)
				inBoth, _ := impl.InSpan(both, a)
				inHull, _ := impl.InSpan(hull, a)
				if (inBoth && code == impl.OK) != (inS && inU) || (inS || inU) && !inHull {
					t.Fatalf("%v, %v and %v: %v and %v", s, u, a, both, hull)
				}
			}
		}
	}
}
