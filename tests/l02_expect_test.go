package tests

import (
	"math"
	"math/big"
	"slices"
	"testing"

	"loop.example/g01254/impl"
)

// The names of chapter 2, for shorter tests.
type (
	Scale   = impl.Scale
	Vernier = impl.Vernier
	Screw   = impl.Screw
	Spindle = impl.Spindle
)

func scale(unit Frac, errors ...Frac) Scale { return Scale{Unit: unit, Errors: errors} }

// even returns a scale without errors, made without the program.
func even(unit Frac, marks int) Scale { return scale(unit, repeated(whole(0), marks)...) }

// uneven returns a scale with errors of both signs.
func uneven(unit Frac, marks int) Scale {
	s := even(unit, marks)
	for k := range s.Errors {
		s.Errors[k], _ = toldRat(new(big.Rat).Mul(rat(unit), big.NewRat(int64(7*k*k%11)-5, 20)))
	}
	return s
}

// validScales has short, long, even and uneven scales, and those at the limits.
func validScales() []Scale {
	return []Scale{
		even(whole(1), 20), even(whole(1), 2), even(whole(1), impl.MaxMarks), even(frac(3, 7), 6), even(frac(5, 2), 9),
		even(whole(1000), 2), even(whole(1000), impl.MaxMarks), even(frac(1, most), impl.MaxMarks), even(frac(1, 2), 3),
		scale(whole(1), frac(1, 4), frac(-1, 4)), scale(whole(1), frac(-1, 4), frac(1, 4), whole(0), frac(1, 8)),
		scale(whole(1), whole(0), frac(1, 8), frac(1, 4)), scale(whole(1000), whole(-250), whole(250), whole(-250)),
		scale(whole(1), frac(1, 4), whole(0), whole(0), frac(-1, 4), frac(1, 5)),
		uneven(whole(1), 12), uneven(frac(2, 3), 7), uneven(whole(10), 30), uneven(frac(13, 10), 5),
		even(frac(most-1, most), 3), even(frac(most, 1000001), 2), // a product more would not be valid
		scale(whole(1), whole(0), frac(-1, most)), scale(whole(1), frac(1, most), whole(0)), // nor would an error more
		scale(whole(4), frac(999999998, 999999999), whole(0)), // twice the error is not valid
		even(frac(4, most-1), 2), even(frac(999999937, 999999929), 2),
	}
}

// invalidScales has one reason for each scale not to be valid.
func invalidScales() []Scale {
	list := []Scale{
		{}, scale(whole(1)), {Unit: whole(1), Errors: []Frac{}}, even(whole(1), 1), even(whole(1), impl.MaxMarks+1), even(whole(1), 1000),
		even(whole(0), 2), even(whole(-1), 2), even(frac(-1, most), 2), even(whole(1001), 2), even(frac(1000001, 1000), 2), even(whole(most), 2), even(whole(least), 2),
		scale(whole(1), frac(250000001, most), whole(0)), scale(whole(1), frac(-250000001, most), whole(0)), scale(whole(1), whole(0), frac(1, 3)),
		scale(whole(1), whole(0), whole(0), frac(-1, 3)), scale(whole(1000), whole(251), whole(0)), scale(whole(1000), whole(0), whole(-251)),
		scale(frac(1, most), frac(1, most), whole(0)), scale(whole(1), whole(most), whole(0)), scale(whole(1), whole(least), whole(0)),
		even(frac(most-1, most), 4), even(frac(most, 1000001), 3), even(frac(999999937, 999999929), 3),
		scale(whole(1), whole(0), frac(1, most)), scale(whole(1), whole(0), whole(0), frac(-1, most)), scale(frac(1, 3), whole(0), frac(1, most)),
	}
	for _, a := range invalidFracs() {
		list = append(list, even(a, 2), scale(whole(1), a, whole(0)), scale(whole(1), whole(0), whole(0), a))
	}
	return list
}

func validVerniers() []Vernier {
	return []Vernier{
		{Parts: 10}, {Parts: 10, Back: true}, {Parts: 2}, {Parts: 2, Back: true}, {Parts: 3}, {Parts: 7, Back: true},
		{Parts: impl.MaxParts}, {Parts: impl.MaxParts, Back: true}, {Parts: 20},
	}
}

func invalidVerniers() []Vernier {
	var list []Vernier
	for _, parts := range []int64{0, 1, -1, -2, -10, impl.MaxParts + 1, -impl.MaxParts, math.MaxInt64, math.MinInt64} {
		list = append(list, Vernier{Parts: parts}, Vernier{Parts: parts, Back: true})
	}
	return list
}

// placesOn returns places on a scale and beyond it, exactly at its marks, nearly there, and between them.
func placesOn(s Scale) []Frac {
	list := []Frac{whole(0), frac(1, 2), frac(37, 10), frac(-1, 3), frac(1, most), whole(most), whole(least), frac(most-1, most), frac(1, 999999937), frac(17, 31622)}
	last := int64(len(s.Errors) - 1)
	for _, k := range []int64{0, 1, last / 2, last} {
		mark := new(big.Rat).Add(new(big.Rat).Mul(rat(s.Unit), big.NewRat(k, 1)), rat(s.Errors[k]))
		for _, part := range []*big.Rat{big.NewRat(0, 1), big.NewRat(1, 1000), big.NewRat(-1, 1000), big.NewRat(1, 2), big.NewRat(3, 7), big.NewRat(1, 20), big.NewRat(29, 40)} {
			x := new(big.Rat).Add(mark, part.Mul(part, rat(s.Unit)))
			if a, code := toldRat(x); code == impl.OK {
				list = append(list, a)
			}
		}
	}
	return list
}

// reckoner calculates with math/big, and remembers whether something on the way was no valid fraction.
type reckoner struct{ beyond bool }

func (r *reckoner) keep(x *big.Rat) *big.Rat {
	if _, code := toldRat(x); code != impl.OK {
		r.beyond = true
	}
	return x
}

func (r *reckoner) plus(a, b *big.Rat) *big.Rat  { return r.keep(new(big.Rat).Add(a, b)) }
func (r *reckoner) minus(a, b *big.Rat) *big.Rat { return r.keep(new(big.Rat).Sub(a, b)) }
func (r *reckoner) times(a, b *big.Rat) *big.Rat { return r.keep(new(big.Rat).Mul(a, b)) }
func (r *reckoner) over(a, b *big.Rat) *big.Rat  { return r.keep(new(big.Rat).Quo(a, b)) }

// told returns what a function tells of a number, if it has no other error.
func (r *reckoner) told(x *big.Rat) (Frac, int64) {
	if r.keep(x); r.beyond {
		return Frac{}, impl.ErrLimit
	}
	return toldRat(x)
}

// index returns what a function tells of an index.
func (r *reckoner) index(i int64) (int64, int64) {
	if r.beyond {
		return 0, impl.ErrLimit
	}
	return i, impl.OK
}

func (r *reckoner) marks(s Scale) []*big.Rat {
	var list []*big.Rat
	for k, e := range s.Errors {
		list = append(list, r.plus(r.times(big.NewRat(int64(k), 1), rat(s.Unit)), rat(e)))
	}
	return list
}

func (r *reckoner) worst(s Scale) *big.Rat {
	worst := new(big.Rat)
	for _, e := range s.Errors {
		worst = highOf(worst, new(big.Rat).Abs(rat(e)))
	}
	return worst
}

func (r *reckoner) distances(s Scale, x *big.Rat) []*big.Rat {
	var list []*big.Rat
	for _, mark := range r.marks(s) {
		difference := r.minus(x, mark)
		list = append(list, difference.Abs(difference))
	}
	return list
}

// leastIndex returns the index of the least one, the first one of several.
func leastIndex(list []*big.Rat) int64 {
	return int64(slices.Index(list, slices.MinFunc(list, (*big.Rat).Cmp)))
}

func (r *reckoner) line(s Scale, v Vernier, x Frac, i int64) *big.Rat {
	steps := i * (v.Parts - 1)
	if v.Back {
		steps = i * (v.Parts + 1)
	}
	return r.plus(rat(x), r.over(r.times(big.NewRat(steps, 1), rat(s.Unit)), big.NewRat(v.Parts, 1)))
}

func (r *reckoner) misfit(s Scale, v Vernier, x Frac, i int64) *big.Rat {
	return slices.MinFunc(r.distances(s, r.line(s, v, x, i)), (*big.Rat).Cmp)
}

// expectPlace returns the error of a place where a vernier cannot be read.
func expectPlace(s Scale, v Vernier, x Frac) int64 {
	marks := new(reckoner).marks(s)
	if rat(x).Cmp(marks[0]) < 0 {
		return impl.ErrRange
	}
	var r reckoner
	end := r.line(s, v, x, v.Parts-1)
	if r.beyond {
		return impl.ErrLimit
	}
	if end.Cmp(marks[len(marks)-1]) > 0 {
		return impl.ErrRange
	}
	return impl.OK
}

func expectLineThatFits(s Scale, v Vernier, x Frac) (int64, int64) {
	if code := expectPlace(s, v, x); code != impl.OK {
		return 0, code
	}
	var r reckoner
	var misfits []*big.Rat
	for i := range v.Parts {
		misfits = append(misfits, r.misfit(s, v, x, i))
	}
	return r.index(leastIndex(misfits))
}

// expectReading returns the reading with the line that fits, and this line's error.
func expectReading(s Scale, v Vernier, x Frac, line, code int64) (Frac, int64) {
	if code != impl.OK {
		return Frac{}, code
	}
	f := line
	if v.Back {
		f = (v.Parts - line) % v.Parts
	}
	var r reckoner
	part := r.times(big.NewRat(f, v.Parts), rat(s.Unit))
	rest := r.minus(rat(x), part)
	n := floorRat(rest.Add(rest.Quo(rest, rat(s.Unit)), big.NewRat(1, 2))) // the quotient itself may have any parts
	return r.told(r.plus(part, r.times(new(big.Rat).SetInt(n), rat(s.Unit))))
}

func expectReadingSpan(s Scale, v Vernier, reading Frac) (Span, int64) {
	var r reckoner
	twice := r.times(big.NewRat(2, 1), r.worst(s))
	by := r.plus(r.over(rat(s.Unit), big.NewRat(2*v.Parts, 1)), twice)
	low, high := r.minus(rat(reading), by), r.plus(rat(reading), by)
	if r.beyond {
		return Span{}, impl.ErrLimit
	}
	return toldSpan(low, high)
}

// sameScale fails if a scale and its code are not those that are expected.
func sameScale(t *testing.T, what any, got Scale, code int64, want Scale, wantCode int64) {
	t.Helper()
	if got.Unit != want.Unit || !slices.Equal(got.Errors, want.Errors) || code != wantCode {
		t.Errorf("%+v: got %+v and %s, want %+v and %s", what, got, impl.CodeName(code), want, impl.CodeName(wantCode))
	}
}

// checkValidity fails unless all items of one list are valid, and none of the other one.
func checkValidity[T any](t *testing.T, isValid func(T) bool, valid, invalid []T) {
	t.Helper()
	for _, x := range valid {
		if !isValid(x) {
			t.Errorf("%+v is valid", x)
		}
	}
	for _, x := range invalid {
		if isValid(x) {
			t.Errorf("%+v is not valid", x)
		}
	}
}
