package tests

import (
	"testing"

	"loop.example/g01254/impl"
)

func TestValidShot(t *testing.T) {
	b := exampleBench()
	isValid := func(x Shot) bool { return impl.ValidShot(b, x) }
	checkValidity(t, isValid, []Shot{exampleShot(), shot(0, whole(100), whole(0)), shot(0, whole(-100), whole(-7)), shot(0, frac(199, 2), whole(most)), shot(0, frac(1, most), whole(least)), shot(0, frac(most, most/100+1), frac(1, most))}, wrongShots())
	for _, b := range validBenches() {
		n := int64(len(b.Things))
		for i := int64(-2); i <= n+1; i++ {
			if got := impl.ValidShot(b, shot(i, whole(5), whole(0))); got != (i >= 0 && i < n) {
				t.Errorf("%+v: a shot of %d is valid: %t", b, i, got)
			}
		}
	}
	for _, b := range invalidBenches() {
		for i := range int64(3) {
			if impl.ValidShot(b, shot(i, whole(0), whole(2))) {
				t.Errorf("%+v: a shot of %d is not valid", b, i)
			}
		}
	}
}

func TestStretchOf(t *testing.T) {
	told := map[int64]int{}
	for _, grows := range append(validFracs(), frac(1, 1000), frac(1, 2000)) {
		for _, warm := range append(validFracs(), warmths()...) {
			var r reckoner
			want, wantCode := r.told(r.stretch(grows, warm))
			got, code := impl.StretchOf(grows, warm)
			same(t, []any{grows, warm}, got, code, want, wantCode)
			told[code]++
		}
	}
	enough(t, told, 100, impl.OK, impl.ErrLimit)
	for _, c := range []struct {
		grows, warm, want Frac
		code              int64
	}{
		{frac(1, 1000), whole(20), frac(51, 50), impl.OK}, {frac(1, 1000), whole(-100), frac(9, 10), impl.OK}, {frac(1, 1000), whole(100), frac(11, 10), impl.OK}, {whole(0), whole(most), whole(1), impl.OK}, {frac(1, most), whole(0), whole(1), impl.OK}, {whole(2), whole(-3), whole(-5), impl.OK}, {whole(1), whole(-1), whole(0), impl.OK}, {frac(1, most), whole(-1), frac(most-1, most), impl.OK},
		{frac(1, most), frac(1, 2), Frac{}, impl.ErrLimit}, {frac(1, most), whole(1), Frac{}, impl.ErrLimit}, {whole(most), whole(1), Frac{}, impl.ErrLimit}, {whole(most), whole(2), Frac{}, impl.ErrLimit}, {whole(31623), whole(31623), Frac{}, impl.ErrLimit}, {whole(31623), whole(-31623), Frac{}, impl.ErrLimit},
		{whole(most), whole(-1), whole(1 - most), impl.OK}, // the stretch of something that does not grow as a scale may
	} {
		got, code := impl.StretchOf(c.grows, c.warm)
		same(t, c, got, code, c.want, c.code)
	}
	for _, a := range invalidFracs() {
		for _, b := range []Frac{whole(0), whole(most), frac(1, 1000), a} {
			got, code := impl.StretchOf(a, b)
			same(t, []Frac{a, b}, got, code, Frac{}, impl.ErrInvalid)
			got, code = impl.StretchOf(b, a)
			same(t, []Frac{b, a}, got, code, Frac{}, impl.ErrInvalid)
		}
	}
}

// TestShots compares what shots are, and what is read of them, with what is expected.
func TestShots(t *testing.T) {
	endsTold, readTold, takenTold := map[int64]int{}, map[int64]int{}, map[int64]int{}
	onShots(func(b Bench, x Shot) {
		want, wantCode := expectEnds(b, x)
		got, code := endsOf(b, x)
		same(t, []any{"ends", b, x}, got, code, want, wantCode)
		endsTold[code]++
		want, wantCode = expectReadEnds(b, x)
		got, code = readEnds(b, x)
		same(t, []any{"read", b, x}, got, code, want, wantCode)
		readTold[code]++
		report, reportCode := expectReport(b, x)
		taken, code := impl.TakeReport(b, x)
		same(t, []any{"report", b, x}, taken, code, report, reportCode)
		takenTold[code]++
	})
	enough(t, endsTold, 100, impl.OK, impl.ErrLimit)
	enough(t, readTold, 100, impl.OK, impl.ErrLimit, impl.ErrRange)
	enough(t, takenTold, 100, impl.OK, impl.ErrLimit, impl.ErrRange)
}

func TestEndsOfByHand(t *testing.T) {
	few := bench(even(whole(1), 20), Vernier{Parts: 10}, frac(1, 999999929), thing("few", frac(1, 999999937), frac(1, 1000)), thing("tiny", frac(1, most), frac(1, 999999937)), thing("long", whole(100000), frac(1, 1000)))
	for _, c := range []struct {
		b           Bench
		i           int64
		warm, start Frac
		second      Frac
		code        int64
	}{
		{exampleBench(), 0, whole(0), whole(2), frac(57, 10), impl.OK}, {exampleBench(), 0, whole(100), whole(-1000), frac(-9963, 10), impl.OK}, {exampleBench(), 0, whole(-100), whole(1000), frac(10037, 10), impl.OK},
		{warmBench(), 0, whole(20), whole(2), frac(2887, 500), impl.OK}, {warmBench(), 1, whole(-100), whole(0), frac(19, 20), impl.OK}, {warmBench(), 2, whole(100), frac(1, 2), frac(45, 8), impl.OK}, {warmBench(), 3, whole(100), whole(-5), frac(-5, 2), impl.OK}, {warmBench(), 0, frac(-1, 2), whole(0), frac(73963, 20000), impl.OK},
		{few, 2, whole(100), whole(1), whole(110001), impl.OK}, {few, 2, whole(-100), whole(1), whole(90001), impl.OK}, {few, 0, whole(0), whole(0), frac(1, 999999937), impl.OK}, {few, 2, whole(0), whole(most - 100000), whole(most), impl.OK}, {few, 2, whole(0), whole(least), whole(least + 100000), impl.OK},
		{few, 2, whole(0), whole(most - 99999), Frac{}, impl.ErrLimit}, // the sum
		{few, 0, whole(1), whole(0), Frac{}, impl.ErrLimit},            // the product of the length and the stretch
		{few, 1, frac(1, 7), whole(0), Frac{}, impl.ErrLimit},          // the stretch
		{few, 0, whole(0), frac(1, 2), Frac{}, impl.ErrLimit},
		{few, 3, whole(0), frac(1, 2), Frac{}, impl.ErrInvalid}, {few, -1, whole(1), whole(0), Frac{}, impl.ErrInvalid}, {few, 0, whole(101), whole(0), Frac{}, impl.ErrInvalid}, {few, 0, whole(1), frac(2, 4), Frac{}, impl.ErrInvalid},
	} {
		want := couple{}
		if c.code == impl.OK {
			want = couple{c.start, c.second}
		}
		got, code := endsOf(c.b, shot(c.i, c.warm, c.start))
		same(t, c, got, code, want, c.code)
	}
}

func TestReadEndsByHand(t *testing.T) {
	long := withThings(thing("end", whole(17), whole(0)), thing("line", frac(89, 10), whole(0)), thing("beyond", frac(8901, 1000), whole(0)), thing("back", frac(71, 10), whole(0)), thing("more", frac(7101, 1000), whole(0)))
	back := long
	back.Vernier.Back = true
	bent := bench(scale(whole(1), frac(-1, 8), frac(1, 4), whole(0), frac(1, 8), whole(0), whole(0)), Vernier{Parts: 2}, whole(0), thing("a", whole(2), whole(0)))
	for _, c := range []struct {
		b             Bench
		i             int64
		warm, start   Frac
		first, second Frac
		code          int64
	}{
		{exampleBench(), 0, whole(0), whole(2), whole(2), frac(57, 10), impl.OK}, {exampleBench(), 0, whole(50), frac(13, 10), frac(13, 10), whole(5), impl.OK}, {exampleBench(), 0, whole(0), frac(1, 20), whole(0), frac(37, 10), impl.OK}, // two lines are as near
		{warmBench(), 0, whole(20), whole(2), whole(2), frac(57, 10), impl.OK}, {warmBench(), 1, whole(100), frac(21, 20), whole(1), whole(2), impl.OK}, {warmBench(), 2, whole(-100), whole(0), whole(0), frac(51, 10), impl.OK}, // 39/8 is 195/38 of 19/20
		{warmBench(), 3, whole(100), whole(0), whole(0), frac(12, 5), impl.OK}, // 5/2 is 50/21 of 21/20
		{bent, 0, whole(0), frac(-1, 8), whole(0), whole(2), impl.OK}, {bent, 0, whole(0), frac(-1, 7), Frac{}, Frac{}, impl.ErrRange}, {bent, 0, whole(0), frac(1, 3), frac(1, 2), frac(5, 2), impl.OK},
		{long, 0, whole(0), whole(2), Frac{}, Frac{}, impl.ErrRange}, {long, 1, whole(0), whole(2), whole(2), frac(109, 10), impl.OK}, {long, 2, whole(0), whole(2), Frac{}, Frac{}, impl.ErrRange}, {long, 0, whole(0), whole(3), Frac{}, Frac{}, impl.ErrRange},
		{back, 1, whole(0), whole(2), Frac{}, Frac{}, impl.ErrRange}, {back, 3, whole(0), whole(2), whole(2), frac(91, 10), impl.OK}, {back, 4, whole(0), whole(2), Frac{}, Frac{}, impl.ErrRange},
		{long, 3, whole(0), frac(-1, 1000), Frac{}, Frac{}, impl.ErrRange}, {long, 3, whole(0), whole(0), whole(0), frac(71, 10), impl.OK}, {long, 3, whole(0), whole(19), Frac{}, Frac{}, impl.ErrRange}, {long, 3, whole(0), whole(20), Frac{}, Frac{}, impl.ErrRange}, {long, 3, whole(0), whole(-100), Frac{}, Frac{}, impl.ErrRange},
		{long, 5, whole(0), whole(-1), Frac{}, Frac{}, impl.ErrInvalid}, {long, 0, whole(-101), whole(-1), Frac{}, Frac{}, impl.ErrInvalid}, {long, 0, whole(0), frac(-2, 2), Frac{}, Frac{}, impl.ErrInvalid}, {withThings(things(11)...), 0, whole(0), whole(-1), Frac{}, Frac{}, impl.ErrInvalid},
	} {
		got, code := readEnds(c.b, shot(c.i, c.warm, c.start))
		same(t, c, got, code, couple{c.first, c.second}, c.code)
	}
}

// TestReadEndsInTheOrderOfErrors has two errors at a time, the first one of which is told, and what is told without it.
func TestReadEndsInTheOrderOfErrors(t *testing.T) {
	few, fine, ell := benchesBeyond()[1], benchesBeyond()[0], frac(1, 999999937)
	few.Things = append(few.Things, thing("few", ell, whole(0)))
	coarse := bench(even(whole(1000), 30), Vernier{Parts: 10}, frac(1, 1000), thing("a", whole(1000), whole(0)))
	odd := bench(even(whole(1), 20), Vernier{Parts: 10}, ell, thing("a", whole(1), whole(0)), thing("b", whole(1), frac(1, 999999929)))
	short := bench(even(frac(1, 20), 10), Vernier{Parts: 4}, whole(0), thing("a", frac(999999936, 999999937), whole(0)))
	for _, c := range []struct {
		what        string
		b           Bench
		i           int64
		warm, start Frac
		want        int64
	}{
		{"the second end, the scale beginning behind the first one", few, 2, whole(0), frac(-1, 2), impl.ErrLimit}, {"only the first end", few, 0, whole(0), whole(-1), impl.ErrRange},
		{"the stretch of the thing, and the first end", few, 1, frac(1, 7), whole(-1), impl.ErrLimit}, {"only the first end", few, 1, whole(0), whole(-1), impl.ErrRange},
		{"the stretch of the scale, and the first end", odd, 0, frac(1, 7), whole(-1), impl.ErrLimit}, {"only the first end", odd, 0, whole(0), whole(-1), impl.ErrRange}, {"the stretch of the scale, and the second end", odd, 0, frac(1, 7), whole(19), impl.ErrLimit},
		{"the warm scale, and the first end", coarse, 0, whole(1), whole(-1), impl.ErrLimit}, {"only the first end", coarse, 0, whole(0), whole(-1), impl.ErrRange}, {"only the first end", coarse, 0, whole(-1), whole(-1), impl.ErrRange}, {"the warm scale alone", coarse, 0, whole(1), whole(0), impl.ErrLimit}, {"a cold scale", coarse, 0, whole(-1), whole(0), impl.OK},
		{"the first end, and the lines at the second one", few, 0, whole(0), whole(-1), impl.ErrRange}, {"only the lines at the second one", few, 0, whole(0), whole(0), impl.ErrLimit},
		{"the lines at the first end, and the second one", short, 0, whole(0), ell, impl.ErrLimit}, {"only the second one", short, 0, whole(0), whole(0), impl.ErrLimit},
		{"the first end, and the quotient of the second one", fine, 1, whole(1), frac(-27000153, most), impl.ErrRange}, {"only the quotient of the second one", fine, 0, whole(1), whole(0), impl.ErrLimit}, {"no error", fine, 1, whole(1), whole(0), impl.OK},
		{"the quotient of the first end, and the second one", fine, 2, whole(1), frac(3000017, most), impl.ErrLimit}, {"only the second one", fine, 2, whole(1), whole(0), impl.ErrRange}, {"only the quotient of the first end", fine, 1, whole(1), frac(3000017, most), impl.ErrLimit},
	} {
		got, code := readEnds(c.b, shot(c.i, c.warm, c.start))
		_, taken := impl.TakeReport(c.b, shot(c.i, c.warm, c.start))
		if code != c.want || c.want != impl.OK && (taken != c.want || got != (couple{})) {
			t.Errorf("%s: got %v, %s and %s, want %s", c.what, got, impl.CodeName(code), impl.CodeName(taken), impl.CodeName(c.want))
		}
	}
	// The tenth of the unit can be read on the warm scale: only its quotient is not valid.
	warm, _ := impl.WarmScale(fine.Scale, frac(1, 1000))
	got, code := impl.ReadVernier(warm, fine.Vernier, frac(3000017, most))
	same(t, "a tenth", got, code, frac(3000017, most), impl.OK)
}

// TestWhatFollows compares the lengths and the spans that follow from readings of all kinds with what is expected.
func TestWhatFollows(t *testing.T) {
	lengthTold, spanTold := map[int64]int{}, map[int64]int{}
	readings := append(validFracs(), frac(57, 10), frac(7, 20), frac(37, 3), whole(59), frac(-1, 10), frac(13, 40))
	n := 0
	onShots(func(b Bench, x Shot) {
		for range 3 {
			n++
			first, second := readings[n%len(readings)], readings[(5*n+n/7)%len(readings)]
			want, wantCode := expectLengthFrom(b, x, first, second)
			got, code := impl.LengthFrom(b, x, first, second)
			same(t, []any{"length", b, x, first, second}, got, code, want, wantCode)
			lengthTold[code]++
			around, spanCode := expectOpenSpan(b, x, first, second)
			open, code := impl.OpenSpan(b, x, first, second)
			same(t, []any{"span", b, x, first, second}, open, code, around, spanCode)
			spanTold[code]++
		}
	})
	enough(t, lengthTold, 500, impl.OK, impl.ErrLimit)
	enough(t, spanTold, 500, impl.OK, impl.ErrLimit)
}

func TestWhatFollowsByHand(t *testing.T) {
	beyond := benchesBeyond()
	zero, ell := whole(0), frac(1, 999999937)
	for _, c := range []struct {
		b             Bench
		x             Shot
		first, second Frac
		length        Frac
		lengthCode    int64
		open          Span
		spanCode      int64
	}{
		{exampleBench(), exampleShot(), whole(2), frac(57, 10), frac(37, 10), impl.OK, span(frac(18, 5), frac(19, 5)), impl.OK}, {exampleBench(), exampleShot(), frac(57, 10), whole(2), frac(-37, 10), impl.OK, span(frac(-19, 5), frac(-18, 5)), impl.OK}, {exampleBench(), exampleShot(), whole(-7), whole(-7), zero, impl.OK, span(frac(-1, 10), frac(1, 10)), impl.OK}, {exampleBench(), exampleShot(), whole(1000), whole(3000), whole(2000), impl.OK, span(frac(19999, 10), frac(20001, 10)), impl.OK},
		{warmBench(), shot(0, whole(20), whole(2)), whole(2), frac(57, 10), frac(3737, 1020), impl.OK, span(frac(303, 85), frac(1919, 510)), impl.OK}, {warmBench(), shot(0, whole(-100), whole(2)), zero, whole(9), frac(19, 2), impl.OK, span(frac(1691, 180), frac(1729, 180)), impl.OK}, {warmBench(), shot(1, whole(100), zero), zero, whole(1), whole(1), impl.OK, span(frac(9, 10), frac(11, 10)), impl.OK}, {warmBench(), shot(3, whole(100), zero), zero, whole(1), frac(21, 20), impl.OK, span(frac(189, 200), frac(231, 200)), impl.OK},
		{bench(scale(whole(1), zero, frac(-1, 8), zero), Vernier{Parts: 2, Back: true}, zero, thing("a", whole(1), zero)), shot(0, zero, zero), zero, whole(2), whole(2), impl.OK, between(1, 3), impl.OK},                                      // e is 1/4 + 1/4
		{bench(scale(whole(1), zero, frac(-1, 8), zero), Vernier{Parts: 2, Back: true}, frac(1, 1000), thing("a", whole(1), zero)), shot(0, whole(100), zero), zero, whole(2), frac(11, 5), impl.OK, span(frac(11, 10), frac(33, 10)), impl.OK}, // of the scale as it is
		{exampleBench(), exampleShot(), whole(-1), whole(most), Frac{}, impl.ErrLimit, Span{}, impl.ErrLimit}, {exampleBench(), exampleShot(), zero, whole(most), whole(most), impl.OK, Span{}, impl.ErrLimit}, {exampleBench(), exampleShot(), zero, ell, ell, impl.OK, Span{}, impl.ErrLimit},
		{warmBench(), shot(1, whole(20), zero), zero, ell, Frac{}, impl.ErrLimit, Span{}, impl.ErrLimit},                                                                                                                                     // the product; its quotient would be valid
		{warmBench(), shot(0, whole(20), zero), zero, frac(1, 9999991), Frac{}, impl.ErrLimit, Span{}, impl.ErrLimit}, {warmBench(), shot(3, whole(20), zero), zero, frac(1, 9999991), frac(101, 999999100), impl.OK, Span{}, impl.ErrLimit}, // the quotient alone
		{beyond[2], shot(0, zero, zero), zero, zero, zero, impl.OK, Span{}, impl.ErrLimit}, {beyond[3], shot(0, zero, zero), zero, zero, zero, impl.OK, Span{}, impl.ErrLimit}, {beyond[4], shot(0, zero, zero), zero, zero, zero, impl.OK, Span{}, impl.ErrLimit}, {bench(even(frac(1, most), 2), Vernier{Parts: 2}, zero, thing("a", whole(1), zero)), shot(0, zero, zero), zero, zero, zero, impl.OK, Span{}, impl.ErrLimit},
		{exampleBench(), shot(1, zero, zero), zero, zero, Frac{}, impl.ErrInvalid, Span{}, impl.ErrInvalid}, {exampleBench(), exampleShot(), frac(2, 4), zero, Frac{}, impl.ErrInvalid, Span{}, impl.ErrInvalid}, {exampleBench(), exampleShot(), zero, Frac{}, Frac{}, impl.ErrInvalid, Span{}, impl.ErrInvalid}, {exampleBench(), exampleShot(), whole(-1), whole(most + 1), Frac{}, impl.ErrInvalid, Span{}, impl.ErrInvalid},
	} {
		got, code := impl.LengthFrom(c.b, c.x, c.first, c.second)
		same(t, []any{"length", c}, got, code, c.length, c.lengthCode)
		open, code := impl.OpenSpan(c.b, c.x, c.first, c.second)
		same(t, []any{"span", c}, open, code, c.open, c.spanCode)
	}
}

// TestInvalidShots has what is not valid ahead of all other errors.
func TestInvalidShots(t *testing.T) {
	check := func(b Bench, x Shot, first, second Frac) {
		t.Helper()
		length, code := impl.LengthFrom(b, x, first, second)
		same(t, []any{"length", b, x, first, second}, length, code, Frac{}, impl.ErrInvalid)
		open, code := impl.OpenSpan(b, x, first, second)
		same(t, []any{"span", b, x, first, second}, open, code, Span{}, impl.ErrInvalid)
	}
	shots := func(b Bench, x Shot) {
		t.Helper()
		got, code := endsOf(b, x)
		same(t, []any{"ends", b, x}, got, code, couple{}, impl.ErrInvalid)
		got, code = readEnds(b, x)
		same(t, []any{"read", b, x}, got, code, couple{}, impl.ErrInvalid)
		report, code := impl.TakeReport(b, x)
		same(t, []any{"report", b, x}, report, code, Report{}, impl.ErrInvalid)
		check(b, x, whole(2), frac(57, 10))
		check(b, x, whole(least), whole(most))
	}
	for _, b := range invalidBenches() {
		for i := range int64(3) {
			shots(b, shot(i, whole(0), whole(2)))
			shots(b, shot(i, whole(100), whole(-1)))
		}
	}
	for _, x := range wrongShots() {
		shots(exampleBench(), x)
	}
	for _, a := range invalidFracs() {
		for _, other := range []Frac{whole(0), whole(most), a} {
			check(exampleBench(), exampleShot(), a, other)
			check(exampleBench(), exampleShot(), other, a)
		}
	}
}
