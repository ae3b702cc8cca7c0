package tests

import (
	"math"
	"math/big"
	"testing"

	"loop.example/g01254/impl"
)

func screw(pitch Frac, parts int64, play Frac) Screw {
	return Screw{Pitch: pitch, Parts: parts, Play: play}
}

func spindle(turned int64, at Frac) Spindle { return Spindle{Turned: turned, At: at} }

// validScrews has screws without play and with a whole Pitch of it, and some whose nut is not valid everywhere.
func validScrews() []Screw {
	return []Screw{
		screw(whole(1), 10, frac(1, 4)), screw(whole(1), 10, whole(0)), screw(whole(1), 10, whole(1)), screw(whole(1), 4, frac(1, 4)),
		screw(whole(100), 100, whole(100)), screw(whole(100), 2, frac(1, 3)), screw(frac(1, 2), 50, frac(1, 100)), screw(frac(7, 3), 7, whole(1)),
		screw(frac(1, most/100), 100, whole(0)), screw(frac(1, most/100), 100, frac(1, most)), screw(frac(7, most/10), 100, whole(0)),
		screw(frac(99999999, 1000000), 3, whole(0)), screw(frac(most-1, most), 3, whole(0)), screw(whole(1), 10, frac(1, most)), screw(frac(1, most), 2, frac(1, most)),
	}
}

func invalidScrews() []Screw {
	list := []Screw{
		{}, screw(whole(0), 10, whole(0)), screw(whole(-1), 10, whole(0)), screw(frac(-1, most), 10, frac(-1, most)), screw(whole(101), 10, whole(0)),
		screw(frac(100000001, 1000000), 10, whole(0)), screw(whole(most), 10, whole(0)), screw(whole(1), 10, frac(-1, most)), screw(whole(1), 10, whole(-1)),
		screw(whole(1), 10, frac(1001, 1000)), screw(whole(1), 10, whole(most)), screw(frac(1, 3), 10, frac(1, 2)), screw(whole(1), 10, whole(least)),
	}
	for _, parts := range []int64{0, 1, -1, -10, 101, 1000, math.MaxInt64, math.MinInt64} {
		list = append(list, screw(whole(1), parts, whole(0)))
	}
	for _, a := range invalidFracs() {
		list = append(list, screw(a, 10, whole(0)), screw(whole(1), 10, a))
	}
	return list
}

// free returns where a spindle can stand: from the nut less Play to the nut.
func (r *reckoner) free(m Screw, turned int64) (low, nut *big.Rat) {
	nut = r.over(r.times(big.NewRat(turned, 1), rat(m.Pitch)), big.NewRat(m.Parts, 1))
	return r.minus(nut, rat(m.Play)), nut
}

// spindlesOf returns spindles at both ends of the play, and inside of it.
func spindlesOf(m Screw) []Spindle {
	var list []Spindle
	for _, turned := range []int64{0, 1, -1, 3, 10, -10, 123, 9990, 9999, impl.MaxTurns, -9999, -impl.MaxTurns} {
		var r reckoner
		low, nut := r.free(m, turned)
		for _, at := range []*big.Rat{low, nut, new(big.Rat).Mul(big.NewRat(1, 2), new(big.Rat).Add(low, nut))} {
			if a, code := toldRat(at); code == impl.OK && !r.beyond {
				list = append(list, spindle(turned, a))
			}
		}
	}
	return list
}

func TestValidScrew(t *testing.T) {
	checkValidity(t, impl.ValidScrew, validScrews(), invalidScrews())
	for parts := int64(-5); parts <= 110; parts++ {
		if got := impl.ValidScrew(screw(whole(3), parts, whole(3))); got != (parts >= 2 && parts <= 100) {
			t.Errorf("%d parts: valid is %t", parts, got)
		}
	}
}

func TestValidSpindle(t *testing.T) {
	turns := []int64{0, 1, -1, 2, 3, 5, 10, 20, -20, 30, 100, 9999, 10000, 10001, -10000, -10001, math.MaxInt64, math.MinInt64}
	valid := 0
	for _, m := range validScrews() {
		places := append(validFracs(), frac(3, 4), frac(19, 25), frac(9, 10), frac(11, 10), frac(37, 50))
		for _, x := range spindlesOf(m) {
			places = append(places, x.At)
		}
		for _, turned := range turns {
			for _, at := range places {
				var r reckoner
				want := turned >= -10000 && turned <= 10000
				if want {
					low, nut := r.free(m, turned)
					want = !r.beyond && low.Cmp(rat(at)) <= 0 && rat(at).Cmp(nut) <= 0
				}
				if got := impl.ValidSpindle(m, spindle(turned, at)); got != want {
					t.Errorf("%+v and %d at %v: valid is %t", m, turned, at, got)
				}
				if want {
					valid++
				}
			}
		}
		for _, a := range invalidFracs() {
			if impl.ValidSpindle(m, spindle(0, a)) {
				t.Errorf("%+v: %+v is not valid", m, a)
			}
		}
	}
	for _, m := range invalidScrews() {
		if impl.ValidSpindle(m, spindle(0, whole(0))) {
			t.Errorf("%+v is not valid", m)
		}
	}
	if valid < 200 {
		t.Errorf("only %d were valid", valid)
	}
}

func TestValidSpindleByHand(t *testing.T) {
	m := screw(whole(1), 10, frac(1, 4))
	for _, c := range []struct {
		m    Screw
		x    Spindle
		want bool
	}{
		{m, spindle(10, frac(3, 4)), true}, {m, spindle(10, whole(1)), true}, {m, spindle(10, frac(9, 10)), true},
		{m, spindle(10, frac(749, 1000)), false}, {m, spindle(10, frac(1001, 1000)), false},
		{m, spindle(impl.MaxTurns, whole(1000)), true}, {m, spindle(-impl.MaxTurns, whole(-1000)), true},
		{m, spindle(impl.MaxTurns+1, frac(10001, 10)), false}, {m, spindle(-impl.MaxTurns-1, frac(-10001, 10)), false},
		{screw(whole(1), 10, whole(0)), spindle(10, whole(1)), true}, {screw(whole(1), 10, whole(0)), spindle(10, frac(999, 1000)), false},
		{screw(whole(1), 10, whole(1)), spindle(10, whole(0)), true}, {screw(whole(1), 10, whole(1)), spindle(10, frac(-1, 1000)), false},
		{screw(frac(most-1, most), 3, whole(0)), spindle(3, frac(most-1, most)), false}, // the product 3 * Pitch is not valid, but where the nut is
		{screw(frac(most-1, most), 3, whole(0)), spindle(1, frac(333333333, most)), true},
		{screw(frac(7, most/10), 100, whole(0)), spindle(10, frac(7, most)), true}, {screw(frac(7, most/10), 100, whole(0)), spindle(1, whole(0)), false},
		{screw(whole(1), 10, frac(1, most)), spindle(10, whole(1)), true},
		{screw(whole(1), 10, frac(1, most)), spindle(20, whole(2)), false}, // the nut less Play is not valid
		{screw(whole(1), 1, frac(1, 4)), spindle(0, whole(0)), false},
		{m, spindle(0, frac(0, 2)), false},
	} {
		if got := impl.ValidSpindle(c.m, c.x); got != c.want {
			t.Errorf("%+v: got %t", c, got)
		}
	}
}

func expectTurn(m Screw, x Spindle, by int64) (Spindle, int64) {
	if by < -20000 || by > 20000 || x.Turned+by < -10000 || x.Turned+by > 10000 {
		return Spindle{}, impl.ErrRange
	}
	var r reckoner
	low, nut := r.free(m, x.Turned+by)
	at, code := r.told(lowOf(nut, highOf(low, rat(x.At))))
	if code != impl.OK {
		return Spindle{}, code
	}
	return spindle(x.Turned+by, at), impl.OK
}

func TestTurnSpindle(t *testing.T) {
	told := map[int64]int{}
	for _, m := range validScrews() {
		for _, x := range spindlesOf(m) {
			for _, by := range []int64{0, 1, -1, 2, -2, 3, -3, 10, -10, 11, 100, -1000, 9999, 10000, -10000, 10001, 20000, -20000, 20001, -20001, 1 << 32, math.MaxInt64, math.MinInt64} {
				want, wantCode := expectTurn(m, x, by)
				got, code := impl.TurnSpindle(m, x, by)
				same(t, []any{m, x, by}, got, code, want, wantCode)
				told[code]++
			}
			var r reckoner
			_, nut := r.free(m, x.Turned)
			want, _ := toldRat(nut)
			got, code := impl.ReadSpindle(m, x)
			same(t, []any{m, x}, got, code, want, impl.OK)
		}
	}
	if told[impl.OK] < 500 || told[impl.ErrRange] < 500 || told[impl.ErrLimit] < 50 {
		t.Errorf("told %v", told)
	}
}

func TestTurnSpindleByHand(t *testing.T) {
	m := screw(whole(1), 10, frac(1, 4))
	quarters := screw(whole(1), 4, frac(1, 4))
	for _, c := range []struct {
		m    Screw
		x    Spindle
		by   int64
		want Spindle
		code int64
	}{
		{m, spindle(0, whole(0)), 10, spindle(10, frac(3, 4)), impl.OK},
		{m, spindle(10, frac(3, 4)), 0, spindle(10, frac(3, 4)), impl.OK},
		{m, spindle(10, frac(9, 10)), 0, spindle(10, frac(9, 10)), impl.OK},
		{m, spindle(10, frac(3, 4)), 1, spindle(11, frac(17, 20)), impl.OK},
		{m, spindle(10, frac(3, 4)), -2, spindle(8, frac(3, 4)), impl.OK}, // inside of the play
		{m, spindle(10, frac(3, 4)), -3, spindle(7, frac(7, 10)), impl.OK},
		{m, spindle(10, whole(1)), -1, spindle(9, frac(9, 10)), impl.OK},
		{m, spindle(10, whole(1)), 2, spindle(12, whole(1)), impl.OK},
		{m, spindle(10, whole(1)), 3, spindle(13, frac(21, 20)), impl.OK},
		{m, spindle(0, whole(0)), -10, spindle(-10, whole(-1)), impl.OK},
		{quarters, spindle(4, frac(3, 4)), -1, spindle(3, frac(3, 4)), impl.OK}, // to the end of the play exactly
		{quarters, spindle(4, frac(3, 4)), -2, spindle(2, frac(1, 2)), impl.OK},
		{quarters, spindle(3, frac(3, 4)), 1, spindle(4, frac(3, 4)), impl.OK},
		{screw(whole(1), 10, whole(0)), spindle(0, whole(0)), 7, spindle(7, frac(7, 10)), impl.OK},
		{screw(whole(1), 10, whole(0)), spindle(0, whole(0)), -7, spindle(-7, frac(-7, 10)), impl.OK},
		{screw(whole(1), 10, whole(1)), spindle(0, whole(0)), 10, spindle(10, whole(0)), impl.OK},
		{screw(whole(1), 10, whole(1)), spindle(0, whole(0)), 11, spindle(11, frac(1, 10)), impl.OK},
		{m, spindle(9999, frac(9999, 10)), 1, spindle(10000, frac(9999, 10)), impl.OK},
		{m, spindle(9999, frac(9999, 10)), 2, Spindle{}, impl.ErrRange},
		{m, spindle(10000, whole(1000)), 1, Spindle{}, impl.ErrRange},
		{m, spindle(10000, whole(1000)), -20000, spindle(-10000, whole(-1000)), impl.OK},
		{m, spindle(-10000, whole(-1000)), 20000, spindle(10000, frac(3999, 4)), impl.OK},
		{m, spindle(-10000, whole(-1000)), -1, Spindle{}, impl.ErrRange},
		{m, spindle(-10000, whole(-1000)), 20001, Spindle{}, impl.ErrRange},
		{m, spindle(0, whole(0)), math.MinInt64, Spindle{}, impl.ErrRange},
		{m, spindle(-10000, whole(-1000)), math.MinInt64, Spindle{}, impl.ErrRange},
		{m, spindle(10000, whole(1000)), math.MaxInt64, Spindle{}, impl.ErrRange},
		{screw(frac(7, most/10), 100, whole(0)), spindle(0, whole(0)), 1, Spindle{}, impl.ErrLimit},
		{screw(frac(7, most/10), 100, whole(0)), spindle(0, whole(0)), 10, spindle(10, frac(7, most)), impl.OK}, // nothing counts but the end
		{screw(frac(most-1, most), 3, whole(0)), spindle(0, whole(0)), 3, Spindle{}, impl.ErrLimit},
		{screw(frac(most-1, most), 3, whole(0)), spindle(0, whole(0)), 10001, Spindle{}, impl.ErrRange},
		{screw(whole(1), 10, frac(1, most)), spindle(10, whole(1)), 10, Spindle{}, impl.ErrLimit},
		{screw(whole(1), 10, frac(1, most)), spindle(10, whole(1)), -10, spindle(0, whole(0)), impl.OK},
	} {
		got, code := impl.TurnSpindle(c.m, c.x, c.by)
		same(t, c, got, code, c.want, c.code)
	}
	got, code := impl.ReadSpindle(m, spindle(10, frac(3, 4)))
	same(t, "read", got, code, whole(1), impl.OK)
	got, code = impl.ReadSpindle(m, spindle(-3, frac(-1, 2)))
	same(t, "read", got, code, frac(-3, 10), impl.OK)
}

type turnedTo struct {
	spindle Spindle
	parts   int64
}

func expectTurnTo(m Screw, x Spindle, at Frac, most int64) (turnedTo, int64) {
	if most < 0 || most > 10000 {
		return turnedTo{}, impl.ErrRange
	}
	side := rat(at).Cmp(rat(x.At))
	y := turnedTo{spindle: x}
	for side != 0 && rat(at).Cmp(rat(y.spindle.At)) == side {
		if y.parts*int64(side) == most {
			return turnedTo{}, impl.ErrBudget
		}
		z, code := expectTurn(m, y.spindle, int64(side))
		if code != impl.OK {
			return turnedTo{}, code
		}
		y = turnedTo{z, y.parts + int64(side)}
	}
	return y, impl.OK
}

func TestTurnTo(t *testing.T) {
	told := map[int64]int{}
	for _, m := range validScrews() {
		for _, x := range spindlesOf(m) {
			for _, away := range []Frac{whole(0), frac(1, 10), frac(-1, 10), frac(1, 1000), frac(-2, 3), frac(5, 2), whole(-3), whole(100), frac(1, most), frac(-1, most)} {
				at, code := toldRat(new(big.Rat).Add(rat(x.At), rat(away)))
				if code != impl.OK {
					continue
				}
				for _, most := range []int64{0, 1, 2, 13, 40, -1, impl.MaxTurns + 1} {
					want, wantCode := expectTurnTo(m, x, at, most)
					y, parts, code := impl.TurnTo(m, x, at, most)
					same(t, []any{m, x, at, most}, turnedTo{y, parts}, code, want, wantCode)
					told[code]++
				}
			}
		}
	}
	for _, code := range []int64{impl.OK, impl.ErrRange, impl.ErrLimit, impl.ErrBudget} {
		if told[code] < 100 {
			t.Errorf("told %v", told)
		}
	}
}

func TestTurnToByHand(t *testing.T) {
	m := screw(whole(1), 10, frac(1, 4))
	x := spindle(10, frac(3, 4))
	for _, c := range []struct {
		m    Screw
		x    Spindle
		at   Frac
		most int64
		want turnedTo
		code int64
	}{
		{m, x, frac(1, 2), 20, turnedTo{spindle(5, frac(1, 2)), -5}, impl.OK},
		{m, x, frac(1, 2), 5, turnedTo{spindle(5, frac(1, 2)), -5}, impl.OK},
		{m, x, frac(1, 2), 4, turnedTo{}, impl.ErrBudget},
		{m, x, frac(11, 20), 20, turnedTo{spindle(5, frac(1, 2)), -5}, impl.OK}, // beyond it
		{m, x, whole(1), 20, turnedTo{spindle(13, frac(21, 20)), 3}, impl.OK},
		{m, x, frac(17, 20), 1, turnedTo{spindle(11, frac(17, 20)), 1}, impl.OK},
		{m, x, frac(17, 20), 0, turnedTo{}, impl.ErrBudget},
		{m, x, frac(3, 4), 0, turnedTo{x, 0}, impl.OK}, // it is there
		{m, x, frac(3, 4), impl.MaxTurns, turnedTo{x, 0}, impl.OK},
		{m, x, frac(3, 4), -1, turnedTo{}, impl.ErrRange},
		{m, x, frac(3, 4), impl.MaxTurns + 1, turnedTo{}, impl.ErrRange},
		{m, x, frac(3, 4), math.MinInt64, turnedTo{}, impl.ErrRange},
		{m, x, whole(1), math.MaxInt64, turnedTo{}, impl.ErrRange},
		{m, x, frac(749, 1000), 20, turnedTo{spindle(7, frac(7, 10)), -3}, impl.OK},
		{m, x, frac(751, 1000), 20, turnedTo{spindle(11, frac(17, 20)), 1}, impl.OK},
		{m, spindle(0, whole(0)), whole(999), impl.MaxTurns, turnedTo{spindle(9993, frac(19981, 20)), 9993}, impl.OK},
		{m, spindle(0, whole(0)), frac(3999, 4), impl.MaxTurns, turnedTo{spindle(10000, frac(3999, 4)), 10000}, impl.OK},
		{m, spindle(0, whole(0)), whole(-1000), impl.MaxTurns, turnedTo{spindle(-10000, whole(-1000)), -10000}, impl.OK},
		{m, spindle(0, whole(0)), frac(3999, 4), impl.MaxTurns - 1, turnedTo{}, impl.ErrBudget},
		{m, spindle(0, whole(0)), whole(1000), impl.MaxTurns, turnedTo{}, impl.ErrBudget}, // before ErrRange of the next part
		{m, spindle(1, frac(1, 10)), whole(1000), impl.MaxTurns, turnedTo{}, impl.ErrRange},
		{m, spindle(10000, whole(1000)), whole(most), 0, turnedTo{}, impl.ErrBudget},
		{m, spindle(10000, whole(1000)), whole(most), 1, turnedTo{}, impl.ErrRange},
		{m, spindle(-10000, whole(-1000)), whole(least), 1, turnedTo{}, impl.ErrRange},
		{screw(frac(7, most/10), 100, whole(0)), spindle(0, whole(0)), whole(1), 1, turnedTo{}, impl.ErrLimit},
		{screw(frac(7, most/10), 100, whole(0)), spindle(0, whole(0)), whole(-1), 0, turnedTo{}, impl.ErrBudget},
		{m, x, frac(2, 4), -1, turnedTo{}, impl.ErrInvalid},
	} {
		y, parts, code := impl.TurnTo(c.m, c.x, c.at, c.most)
		same(t, c, turnedTo{y, parts}, code, c.want, c.code)
	}
}

func expectPlayFound(m Screw, x Spindle, most int64) (int64, int64) {
	if most < 0 || most > 10000 {
		return 0, impl.ErrRange
	}
	parts := int64(0)
	for _, step := range []int64{1, -1} {
		from := x.At
		for parts = 0; x.At == from; parts++ {
			if parts == most {
				return 0, impl.ErrBudget
			}
			y, code := expectTurn(m, x, step)
			if code != impl.OK {
				return 0, code
			}
			x = y
		}
	}
	return parts, impl.OK
}

func TestPlayFound(t *testing.T) {
	told := map[int64]int{}
	for _, m := range validScrews() {
		for _, x := range spindlesOf(m) {
			for _, most := range []int64{0, 1, 2, 3, 10, 11, 105, -1, impl.MaxTurns + 1, math.MaxInt64, math.MinInt64} {
				want, wantCode := expectPlayFound(m, x, most)
				got, code := impl.PlayFound(m, x, most)
				same(t, []any{m, x, most}, got, code, want, wantCode)
				told[code]++
			}
		}
	}
	for _, code := range []int64{impl.OK, impl.ErrRange, impl.ErrLimit, impl.ErrBudget} {
		if told[code] < 100 {
			t.Errorf("told %v", told)
		}
	}
}

func TestPlayFoundByHand(t *testing.T) {
	m := screw(whole(1), 10, frac(1, 4))
	for _, c := range []struct {
		m    Screw
		x    Spindle
		most int64
		want int64
		code int64
	}{
		{m, spindle(10, frac(3, 4)), 20, 3, impl.OK},
		{m, spindle(10, frac(3, 4)), 3, 3, impl.OK},
		{m, spindle(10, frac(3, 4)), 2, 0, impl.ErrBudget}, // of the way back
		{m, spindle(10, whole(1)), 3, 3, impl.OK},          // each way has so many parts
		{m, spindle(10, whole(1)), 2, 0, impl.ErrBudget},
		{m, spindle(10, frac(3, 4)), 0, 0, impl.ErrBudget},
		{screw(whole(1), 10, whole(0)), spindle(0, whole(0)), 1, 1, impl.OK},
		{screw(whole(1), 10, whole(1)), spindle(0, whole(-1)), 11, 11, impl.OK},
		{screw(whole(1), 10, whole(1)), spindle(0, whole(-1)), 10, 0, impl.ErrBudget},
		{screw(whole(1), 10, frac(3, 10)), spindle(0, whole(0)), 20, 4, impl.OK}, // to the end of the play does not move it
		{screw(whole(100), 100, whole(100)), spindle(0, whole(0)), 101, 101, impl.OK},
		{m, spindle(10000, frac(3999, 4)), impl.MaxTurns, 0, impl.ErrRange},
		{m, spindle(10000, frac(3999, 4)), 0, 0, impl.ErrBudget},
		{m, spindle(9999, frac(19993, 20)), impl.MaxTurns, 3, impl.OK},
		{m, spindle(9998, frac(4999, 5)), 2, 0, impl.ErrBudget},
		{m, spindle(9998, frac(4999, 5)), 3, 0, impl.ErrRange},
		{m, spindle(-10000, frac(-4001, 4)), 1, 0, impl.ErrBudget}, // of the way back, as the next one
		{m, spindle(-10000, frac(-4001, 4)), 2, 0, impl.ErrRange},
		{screw(frac(7, most/10), 100, whole(0)), spindle(10, frac(7, most)), 1, 0, impl.ErrLimit},
		{m, spindle(10, frac(3, 4)), -1, 0, impl.ErrRange},
		{m, spindle(10, frac(3, 4)), impl.MaxTurns + 1, 0, impl.ErrRange},
		{m, spindle(10, frac(1, 4)), -1, 0, impl.ErrInvalid},
	} {
		got, code := impl.PlayFound(c.m, c.x, c.most)
		same(t, c, got, code, c.want, c.code)
	}
}

// checkInvalidSpindle fails unless all functions of spindles say that a spindle is not valid, whatever else is wrong.
func checkInvalidSpindle(t *testing.T, m Screw, x Spindle) {
	t.Helper()
	for _, n := range []int64{0, 5, -1, 20001, math.MaxInt64, math.MinInt64} {
		y, code := impl.TurnSpindle(m, x, n)
		same(t, []any{"turn", m, x, n}, y, code, Spindle{}, impl.ErrInvalid)
		y, parts, code := impl.TurnTo(m, x, whole(0), n)
		same(t, []any{"turn to", m, x, n}, turnedTo{y, parts}, code, turnedTo{}, impl.ErrInvalid)
		parts, code = impl.PlayFound(m, x, n)
		same(t, []any{"play", m, x, n}, parts, code, 0, impl.ErrInvalid)
	}
	at, code := impl.ReadSpindle(m, x)
	same(t, []any{"read", m, x}, at, code, Frac{}, impl.ErrInvalid)
}

func TestSpindlesThatAreInvalid(t *testing.T) {
	m := screw(whole(1), 10, frac(1, 4))
	for _, bad := range invalidScrews() {
		checkInvalidSpindle(t, bad, spindle(0, whole(0)))
	}
	for _, turned := range []int64{impl.MaxTurns + 1, -impl.MaxTurns - 1, math.MaxInt64, math.MinInt64} {
		checkInvalidSpindle(t, m, spindle(turned, whole(0)))
		checkInvalidSpindle(t, m, spindle(turned, whole(turned/10)))
	}
	for _, at := range append(invalidFracs(), frac(1, 1000), frac(-251, 1000), whole(most), whole(least)) {
		checkInvalidSpindle(t, m, spindle(0, at))
	}
	checkInvalidSpindle(t, screw(frac(most-1, most), 3, whole(0)), spindle(3, frac(most-1, most)))
	for _, at := range invalidFracs() {
		for _, most := range []int64{5, -1} {
			y, parts, code := impl.TurnTo(m, spindle(0, whole(0)), at, most)
			same(t, []any{at, most}, turnedTo{y, parts}, code, turnedTo{}, impl.ErrInvalid)
		}
	}
}
