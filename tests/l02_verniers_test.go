package tests

import (
	"math"
	"math/big"
	"testing"

	"loop.example/g01254/impl"
)

// onVerniers calls check with every valid scale, vernier and place, and some invalid ones.
func onVerniers(check func(s Scale, v Vernier, x Frac, isValid bool)) {
	for i, s := range validScales() {
		for _, v := range validVerniers() {
			for _, x := range placesOn(s) {
				check(s, v, x, true)
			}
			check(s, v, invalidFracs()[i], false)
		}
		for _, v := range invalidVerniers() {
			check(s, v, whole(1), false)
		}
	}
	for i, s := range invalidScales() {
		check(s, validVerniers()[i%len(validVerniers())], whole(0), false)
	}
	for _, x := range invalidFracs() {
		check(even(whole(1), 20), Vernier{Parts: 10}, x, false)
	}
}

func TestValidVernier(t *testing.T) {
	checkValidity(t, impl.ValidVernier, validVerniers(), invalidVerniers())
	for parts := int64(-100); parts <= 100; parts++ {
		for _, back := range []bool{false, true} {
			if got := impl.ValidVernier(Vernier{Parts: parts, Back: back}); got != (parts >= 2 && parts <= 40) {
				t.Errorf("%d parts: valid is %t", parts, got)
			}
		}
	}
}

func TestLeastCount(t *testing.T) {
	onVerniers(func(s Scale, v Vernier, _ Frac, isValid bool) {
		if isValid {
			want, wantCode := toldRat(new(big.Rat).Quo(rat(s.Unit), big.NewRat(v.Parts, 1)))
			got, code := impl.LeastCount(s, v)
			same(t, []any{s, v}, got, code, want, wantCode)
		}
	})
	for _, c := range []struct {
		s    Scale
		v    Vernier
		want Frac
		code int64
	}{
		{even(whole(1), 20), Vernier{Parts: 10}, frac(1, 10), impl.OK},
		{even(whole(1), 20), Vernier{Parts: 10, Back: true}, frac(1, 10), impl.OK},
		{even(whole(1000), 2), Vernier{Parts: 40}, whole(25), impl.OK},
		{even(frac(1, most/10), 2), Vernier{Parts: 10}, frac(1, most), impl.OK},
		{even(frac(1, most/10), 2), Vernier{Parts: 11}, Frac{}, impl.ErrLimit},
		{even(frac(1, most), 2), Vernier{Parts: 2}, Frac{}, impl.ErrLimit},
		{even(frac(1, most), 2), Vernier{Parts: 1}, Frac{}, impl.ErrInvalid},
		{even(frac(1, most), 1), Vernier{Parts: 2}, Frac{}, impl.ErrInvalid},
	} {
		got, code := impl.LeastCount(c.s, c.v)
		same(t, c, got, code, c.want, c.code)
	}
	for _, v := range invalidVerniers() {
		got, code := impl.LeastCount(even(whole(1), 20), v)
		same(t, v, got, code, Frac{}, impl.ErrInvalid)
	}
}

// TestLines compares LineAt and MisfitOf with what is expected of some lines, and of those that are none.
func TestLines(t *testing.T) {
	told := map[int64]int{}
	onVerniers(func(s Scale, v Vernier, x Frac, isValid bool) {
		for _, i := range []int64{0, 1, v.Parts / 2, v.Parts - 1, v.Parts, v.Parts + 1, -1, math.MaxInt64, math.MinInt64} {
			var line, misfit Frac
			lineCode, misfitCode := int64(impl.ErrInvalid), int64(impl.ErrInvalid)
			switch {
			case isValid && (i < 0 || i >= v.Parts):
				lineCode, misfitCode = impl.ErrRange, impl.ErrRange
			case isValid:
				var r, q reckoner
				line, lineCode = r.told(r.line(s, v, x, i))
				misfit, misfitCode = q.told(q.misfit(s, v, x, i))
			}
			got, code := impl.LineAt(s, v, x, i)
			same(t, []any{"line", s, v, x, i}, got, code, line, lineCode)
			got, code = impl.MisfitOf(s, v, x, i)
			same(t, []any{"misfit", s, v, x, i}, got, code, misfit, misfitCode)
			told[code]++
		}
	})
	if told[impl.OK] < 1000 || told[impl.ErrLimit] < 100 {
		t.Errorf("told %v", told)
	}
}

func TestLinesByHand(t *testing.T) {
	long, v, back := even(whole(1), 20), Vernier{Parts: 10}, Vernier{Parts: 10, Back: true}
	for _, c := range []struct {
		name string
		call func(s Scale, v Vernier, x Frac, line int64) (Frac, int64)
		s    Scale
		v    Vernier
		x    Frac
		line int64
		want Frac
		code int64
	}{
		{"line", impl.LineAt, long, v, frac(37, 10), 7, whole(10), impl.OK},
		{"line", impl.LineAt, long, v, frac(37, 10), 0, frac(37, 10), impl.OK},
		{"line", impl.LineAt, long, v, whole(0), 9, frac(81, 10), impl.OK},
		{"line", impl.LineAt, long, back, frac(37, 10), 3, whole(7), impl.OK},
		{"line", impl.LineAt, long, back, whole(0), 9, frac(99, 10), impl.OK},
		{"line", impl.LineAt, long, v, whole(-1000), 1, frac(-9991, 10), impl.OK}, // off the scale, but there
		{"line", impl.LineAt, long, v, whole(0), 10, Frac{}, impl.ErrRange},
		{"line", impl.LineAt, long, v, whole(0), -1, Frac{}, impl.ErrRange},
		{"line", impl.LineAt, long, v, whole(most), 1, Frac{}, impl.ErrLimit},
		{"line", impl.LineAt, long, v, whole(most), 0, whole(most), impl.OK},
		{"line", impl.LineAt, long, v, whole(most), 10, Frac{}, impl.ErrRange},
		{"line", impl.LineAt, even(frac(most-1, most), 2), Vernier{Parts: 3}, whole(0), 1, frac(333333333, most/2), impl.OK},
		{"line", impl.LineAt, even(frac(most-1, most), 2), Vernier{Parts: 3, Back: true}, whole(0), 1, frac(333333333, most/4), impl.OK},
		{"line", impl.LineAt, even(frac(600000000, 999999997), 2), Vernier{Parts: 3}, whole(0), 1, Frac{}, impl.ErrLimit}, // 2 * Unit is not valid, but a third of it
		{"line", impl.LineAt, even(frac(2, most-1), 2), Vernier{Parts: 2}, whole(0), 1, frac(1, most-1), impl.OK},
		{"line", impl.LineAt, even(frac(1, most-1), 2), Vernier{Parts: 2}, whole(0), 1, Frac{}, impl.ErrLimit}, // the quotient is not valid
		{"misfit", impl.MisfitOf, long, v, frac(15, 4), 7, frac(1, 20), impl.OK},
		{"misfit", impl.MisfitOf, long, v, frac(15, 4), 8, frac(1, 20), impl.OK},
		{"misfit", impl.MisfitOf, long, v, frac(15, 4), 0, frac(1, 4), impl.OK},
		{"misfit", impl.MisfitOf, long, v, frac(7, 2), 0, frac(1, 2), impl.OK}, // as near to both marks
		{"misfit", impl.MisfitOf, long, v, frac(37, 10), 7, whole(0), impl.OK},
		{"misfit", impl.MisfitOf, long, v, whole(100), 9, frac(891, 10), impl.OK}, // beyond the last mark
		{"misfit", impl.MisfitOf, long, v, whole(-7), 0, whole(7), impl.OK},
		{"misfit", impl.MisfitOf, scale(whole(1), frac(-1, 4), whole(0)), Vernier{Parts: 2}, whole(0), 0, frac(1, 4), impl.OK},
		{"misfit", impl.MisfitOf, scale(whole(1), frac(-1, 4), whole(0)), Vernier{Parts: 2}, frac(1, 3), 1, frac(1, 6), impl.OK},
		{"misfit", impl.MisfitOf, long, v, frac(37, 10), 10, Frac{}, impl.ErrRange},
		{"misfit", impl.MisfitOf, long, v, whole(least), -1, Frac{}, impl.ErrRange},
		{"misfit", impl.MisfitOf, long, v, whole(least), 0, Frac{}, impl.ErrLimit}, // to the marks far away
		{"misfit", impl.MisfitOf, even(whole(1), 3), v, frac(1, most), 0, Frac{}, impl.ErrLimit},
		{"misfit", impl.MisfitOf, even(whole(1), 2), v, frac(1, most), 0, frac(1, most), impl.OK},
		{"misfit", impl.MisfitOf, long, Vernier{Parts: 41}, whole(0), -1, Frac{}, impl.ErrInvalid},
		{"misfit", impl.MisfitOf, even(whole(1), 1), v, whole(0), -1, Frac{}, impl.ErrInvalid},
	} {
		got, code := c.call(c.s, c.v, c.x, c.line)
		same(t, []any{c.name, c.s, c.v, c.x, c.line}, got, code, c.want, c.code)
	}
}

// TestReadings compares LineThatFits, ReadVernier and ReadingSpan with what is expected.
func TestReadings(t *testing.T) {
	told := map[int64]int{}
	onVerniers(func(s Scale, v Vernier, x Frac, isValid bool) {
		line, reading, around := int64(0), Frac{}, Span{}
		lineCode, readingCode, spanCode := int64(impl.ErrInvalid), int64(impl.ErrInvalid), int64(impl.ErrInvalid)
		if isValid {
			line, lineCode = expectLineThatFits(s, v, x)
			reading, readingCode = expectReading(s, v, x, line, lineCode)
			around, spanCode = expectReadingSpan(s, v, x)
		}
		gotLine, code := impl.LineThatFits(s, v, x)
		same(t, []any{"line", s, v, x}, gotLine, code, line, lineCode)
		got, code := impl.ReadVernier(s, v, x)
		same(t, []any{"reading", s, v, x}, got, code, reading, readingCode)
		told[code]++
		gotSpan, code := impl.ReadingSpan(s, v, x)
		same(t, []any{"span", s, v, x}, gotSpan, code, around, spanCode)
	})
	if told[impl.OK] < 500 || told[impl.ErrLimit] < 100 || told[impl.ErrRange] < 500 {
		t.Errorf("told %v", told)
	}
}

func TestReadingsByHand(t *testing.T) {
	long, v, back := even(whole(1), 20), Vernier{Parts: 10}, Vernier{Parts: 10, Back: true}
	early := even(whole(1), 20)
	early.Errors[0] = frac(-1, 4)
	late := even(whole(1), 20)
	late.Errors[19] = frac(-1, 4)
	half := scale(frac(1, 2), frac(-1, 8), whole(0))
	for _, c := range []struct {
		s    Scale
		v    Vernier
		x    Frac
		line int64
		want Frac
		code int64
	}{
		{long, v, frac(37, 10), 7, frac(37, 10), impl.OK},
		{long, v, frac(15, 4), 7, frac(37, 10), impl.OK}, // the line 8 is as near
		{long, v, frac(151, 40), 8, frac(19, 5), impl.OK},
		{long, v, whole(5), 0, whole(5), impl.OK},
		{long, v, frac(99, 20), 0, whole(5), impl.OK}, // the line 9 is as near, with a lesser reading
		{long, v, frac(989, 200), 9, frac(49, 10), impl.OK},
		{long, back, frac(37, 10), 3, frac(37, 10), impl.OK},
		{long, back, frac(15, 4), 2, frac(19, 5), impl.OK}, // the line 3 is as near
		{long, back, whole(5), 0, whole(5), impl.OK},
		{long, back, frac(1, 10), 9, frac(1, 10), impl.OK},
		{long, v, whole(0), 0, whole(0), impl.OK}, // at the mark 0, and just less
		{long, v, frac(-1, 1000), 0, Frac{}, impl.ErrRange},
		{early, v, frac(-1, 4), 0, whole(0), impl.OK},
		{early, v, frac(-251, 1000), 0, Frac{}, impl.ErrRange},
		{early, v, frac(-1, 10), 9, frac(-1, 10), impl.OK},  // a reading that is negative
		{long, v, frac(109, 10), 9, frac(109, 10), impl.OK}, // the line 9 at the last mark, and just beyond it
		{long, v, frac(10901, 1000), 0, Frac{}, impl.ErrRange},
		{long, back, frac(91, 10), 9, frac(91, 10), impl.OK},
		{long, back, frac(9101, 1000), 0, Frac{}, impl.ErrRange},
		{late, v, frac(213, 20), 9, frac(109, 10), impl.OK}, // 213/20 + 81/10 is 19 - 1/4
		{late, v, frac(10651, 1000), 0, Frac{}, impl.ErrRange},
		{long, v, whole(15), 0, Frac{}, impl.ErrRange},
		{even(whole(1), 3), Vernier{Parts: 2}, frac(1, 2), 1, frac(1, 2), impl.OK},
		{even(whole(1), 3), Vernier{Parts: 2}, frac(3, 2), 1, frac(3, 2), impl.OK},
		{even(whole(1), 3), Vernier{Parts: 2, Back: true}, frac(1, 2), 1, frac(1, 2), impl.OK},
		{even(whole(1), 3), Vernier{Parts: 2, Back: true}, frac(51, 100), 0, Frac{}, impl.ErrRange},
		{even(whole(1), 60), Vernier{Parts: 40}, frac(801, 40), 1, frac(801, 40), impl.OK},
		{even(whole(1), 60), Vernier{Parts: 40, Back: true}, frac(801, 40), 0, Frac{}, impl.ErrRange},
		{even(whole(1), 60), Vernier{Parts: 40, Back: true}, frac(481, 40), 39, frac(481, 40), impl.OK},
		{even(whole(1000), 60), v, whole(3700), 7, whole(3700), impl.OK},
		{long, v, frac(1, 999999937), 0, Frac{}, impl.ErrLimit}, // the line 9 is not valid
		{long, v, frac(-1, 999999937), 0, Frac{}, impl.ErrRange},
		{long, v, whole(most), 0, Frac{}, impl.ErrLimit},
		{long, v, whole(least), 0, Frac{}, impl.ErrRange},
		{even(whole(1), 3), Vernier{Parts: 2}, frac(1, most), 0, Frac{}, impl.ErrLimit},            // a misfit is not valid
		{half, Vernier{Parts: 2}, frac(399999967, 800000132), 0, Frac{}, impl.ErrRange},            // before the misfits, which are not valid
		{even(whole(3), 2), Vernier{Parts: 2}, frac(200000000, 166666669), 1, frac(3, 2), impl.OK}, // (x - 3/2) / 3 is not valid, but told by NearestTo
		{long, v, frac(2, 4), 0, Frac{}, impl.ErrInvalid},
		{long, Vernier{Parts: 1}, whole(-1), 0, Frac{}, impl.ErrInvalid},
		{even(whole(1), 1), v, whole(-1), 0, Frac{}, impl.ErrInvalid},
	} {
		line, code := impl.LineThatFits(c.s, c.v, c.x)
		same(t, []any{"line", c}, line, code, c.line, c.code)
		got, code := impl.ReadVernier(c.s, c.v, c.x)
		same(t, []any{"reading", c}, got, code, c.want, c.code)
	}
}

func TestReadingSpanByHand(t *testing.T) {
	long, v := even(whole(1), 20), Vernier{Parts: 10}
	for _, c := range []struct {
		s       Scale
		v       Vernier
		reading Frac
		want    Span
		code    int64
	}{
		{long, v, frac(37, 10), span(frac(73, 20), frac(15, 4)), impl.OK},
		{long, Vernier{Parts: 10, Back: true}, frac(37, 10), span(frac(73, 20), frac(15, 4)), impl.OK},
		{long, Vernier{Parts: 2}, whole(-100), span(frac(-401, 4), frac(-399, 4)), impl.OK},
		{scale(whole(1), whole(0), frac(-1, 8)), v, whole(1), span(frac(7, 10), frac(13, 10)), impl.OK},
		{scale(whole(1), frac(1, 4), frac(-1, 8)), Vernier{Parts: 2}, whole(0), span(frac(-3, 4), frac(3, 4)), impl.OK},
		{scale(whole(4), frac(999999998, 999999999), whole(0)), v, whole(0), Span{}, impl.ErrLimit}, // twice the error
		{even(frac(1, most), 2), Vernier{Parts: 2}, whole(0), Span{}, impl.ErrLimit},                // Unit / 4
		{even(frac(4, most-1), 2), Vernier{Parts: 2}, whole(0), span(frac(-1, most-1), frac(1, most-1)), impl.OK},
		{even(frac(1, most/4), 2), Vernier{Parts: 2}, whole(1), Span{}, impl.ErrLimit}, // High alone, and Low alone
		{even(frac(1, most/4), 2), Vernier{Parts: 2}, whole(-1), Span{}, impl.ErrLimit},
		{scale(frac(1, 31622), frac(1, 999967), whole(0)), v, whole(0), Span{}, impl.ErrLimit}, // the sum of both
		{long, v, whole(most), Span{}, impl.ErrLimit},
		{long, v, whole(least), Span{}, impl.ErrLimit},
		{long, v, frac(2, 4), Span{}, impl.ErrInvalid},
		{long, Vernier{}, whole(0), Span{}, impl.ErrInvalid},
		{scale(whole(1), whole(0), frac(1, 3)), v, whole(0), Span{}, impl.ErrInvalid},
	} {
		got, code := impl.ReadingSpan(c.s, c.v, c.reading)
		same(t, c, got, code, c.want, c.code)
	}
}
