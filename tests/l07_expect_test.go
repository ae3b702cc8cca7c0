package tests

import (
	"math"
	"math/big"
	"math/rand"
	"slices"
	"testing"

	"loop.example/g01254/impl"
)

// The names of chapter 7, for shorter tests.
type (
	Thing  = impl.Thing
	Bench  = impl.Bench
	Shot   = impl.Shot
	Report = impl.Report
)

func thing(name string, length, grows Frac) Thing {
	return Thing{Name: name, Length: length, Grows: grows}
}

func bench(s Scale, v Vernier, grows Frac, things ...Thing) Bench {
	return Bench{Scale: s, Vernier: v, Grows: grows, Things: things}
}

func shot(i int64, warm, start Frac) Shot { return Shot{Thing: i, Warm: warm, Start: start} }

// exampleBench is that of the document.
func exampleBench() Bench {
	return bench(even(whole(1), 20), Vernier{Parts: 10}, whole(0), thing("rod", frac(37, 10), whole(0)))
}

func exampleShot() Shot { return shot(0, whole(0), whole(2)) }

func exampleReport() Report {
	return Report{Shot: exampleShot(), First: whole(2), Second: frac(57, 10), Length: frac(37, 10), Open: span(frac(18, 5), frac(19, 5))}
}

// warmBench has things that grow more than the scale, as much, less, and not at all.
func warmBench() Bench {
	return bench(even(whole(1), 20), Vernier{Parts: 10}, frac(1, 2000), thing("rod", frac(37, 10), frac(1, 1000)), thing("pin", whole(1), frac(1, 2000)), thing("bar", whole(5), frac(1, 4000)), thing("cube", frac(5, 2), whole(0)))
}

// things returns so many things, all of them different.
func things(n int) []Thing {
	var list []Thing
	for i := range n {
		growth := frac(1, int64(1000+999*i))
		if i%2 == 1 {
			growth = whole(0)
		}
		list = append(list, thing(nameOf(i), frac(int64(2*i+1), 2), growth))
	}
	return list
}

// validBenches has those that are easily seen through, those at the limits, and some of all kinds.
func validBenches() []Bench {
	growth := frac(1, 1000)
	list := []Bench{
		exampleBench(), warmBench(), bench(even(whole(1), 20), Vernier{Parts: 10}, whole(0)), bench(even(whole(1), 12), Vernier{Parts: 4, Back: true}, growth, things(impl.MaxThings)...), bench(even(whole(1), 12), Vernier{Parts: 4}, frac(1, 1001), things(impl.MaxThings-1)...),
		bench(uneven(whole(1), 12), Vernier{Parts: 5}, growth, thing("a", whole(3), growth), thing("abcdefghijkl", frac(7, 3), frac(1, 3000))), bench(uneven(whole(10), 12), Vernier{Parts: 5, Back: true}, whole(0), thing("z", whole(30), growth), thing("zz", frac(77, 3), whole(0))),
		bench(scale(whole(1), frac(1, 4), frac(-1, 4), frac(1, 4), frac(-1, 4), frac(1, 4), frac(-1, 4)), Vernier{Parts: 2}, frac(1, 2000), thing("a", whole(2), frac(1, 4000))),
		bench(even(whole(1000), 30), Vernier{Parts: 10, Back: true}, whole(0), thing("long", whole(100000), growth), thing("short", whole(9000), growth)), bench(even(whole(1000), 30), Vernier{Parts: 10}, growth, thing("long", whole(15000), whole(0)), thing("tiny", frac(1, most), whole(0))),
		bench(even(frac(1, most), 5), Vernier{Parts: 2}, whole(0), thing("a", frac(1, most), whole(0)), thing("b", frac(most-1, most), frac(1, most))), bench(even(whole(1), 20), Vernier{Parts: 10}, frac(1, 999999937), thing("a", whole(1), frac(1, 999999929)), thing("b", frac(most, 10001), whole(0))),
		bench(even(frac(1, 20), 10), Vernier{Parts: 4}, whole(0), thing("a", frac(999999936, 999999937), whole(0)), thing("b", frac(1, 10), whole(0))),
	}
	list = append(list, benchesBeyond()...)
	random := rand.New(rand.NewSource(7))
	for range 60 {
		list = append(list, someBench(random, 1+random.Intn(4)))
	}
	return list
}

// finestUnit is the unit of a scale that has a valid tenth only if it is warm, by a thousandth.
func finestUnit() Frac { return frac(3000017, 100100000) }

// benchesBeyond have numbers of which something that is calculated is not valid.
func benchesBeyond() []Bench {
	return []Bench{
		bench(even(finestUnit(), 20), Vernier{Parts: 10}, frac(1, 1000), thing("tenth", frac(3000017, most), whole(0)), thing("unit", frac(3000017, 100000000), whole(0)), thing("far", frac(7, 10), whole(0))),
		bench(even(whole(1), 20), Vernier{Parts: 10}, whole(0), thing("ell", frac(999999938, 999999937), whole(0)), thing("bar", whole(3), frac(1, 999999937))),
		bench(scale(frac(1, 31622), frac(1, 999967), whole(0), whole(0), whole(0)), Vernier{Parts: 2}, whole(0), thing("a", frac(1, 31622), whole(0))), // the sum of both parts of e is not valid
		bench(scale(whole(4), frac(999999998, 999999999), whole(0)), Vernier{Parts: 2}, whole(0), thing("a", whole(1), whole(0))),                      // twice the worst error
		bench(scale(frac(999999996, 1000001), frac(249999999, 1000001), whole(0)), Vernier{Parts: 2}, whole(0), thing("a", whole(1), whole(0))),        // twice e, but not e
	}
}

// someBench returns a bench on which many shots can be done.
func someBench(random *rand.Rand, count int) Bench {
	unit := []Frac{whole(1), frac(1, 2), frac(5, 2), whole(10), frac(3, 4)}[random.Intn(5)]
	s, part := even(unit, 8+random.Intn(10)), []int64{0, 3, 100}[random.Intn(3)]
	for k := range s.Errors {
		s.Errors[k], _ = toldRat(new(big.Rat).Mul(rat(unit), big.NewRat(random.Int63n(2*part+1)-part, 400)))
	}
	growths := []Frac{whole(0), frac(1, 1000), frac(1, 2000), frac(1, 50000), frac(3, 10000)}
	b := bench(s, Vernier{Parts: 2 + random.Int63n(5), Back: random.Intn(2) == 0}, growths[random.Intn(5)])
	for i := range count {
		q := []int64{1, 2, 3, 10, 40, 83}[random.Intn(6)]
		length, _ := toldRat(new(big.Rat).Mul(rat(unit), big.NewRat(1+random.Int63n(5*q), q)))
		b.Things = append(b.Things, thing(nameOf(i), length, growths[random.Intn(5)]))
	}
	return b
}

// invalidBenches has one reason for each bench not to be valid.
func invalidBenches() []Bench {
	list := []Bench{{}, {Scale: even(whole(1), 5)}, {Scale: even(whole(1), 5), Vernier: Vernier{Parts: 5}}}
	for _, s := range invalidScales() {
		list = append(list, bench(s, Vernier{Parts: 10}, whole(0), thing("a", whole(1), whole(0))))
	}
	for _, v := range invalidVerniers() {
		list = append(list, bench(even(whole(1), 20), v, whole(0), thing("a", whole(1), whole(0))))
	}
	for _, a := range noGrowths() {
		list = append(list, bench(even(whole(1), 20), Vernier{Parts: 10}, a), bench(even(whole(1), 20), Vernier{Parts: 10}, a, thing("a", whole(1), whole(0))))
	}
	for _, bad := range badThings() {
		list = append(list, withThings(bad), withThings(bad, thing("b", whole(2), whole(0))), withThings(thing("b", whole(2), whole(0)), bad))
	}
	double := thing("a", whole(1), whole(0))
	list = append(list, withThings(double, double), withThings(double, thing("b", whole(1), whole(0)), thing("a", whole(2), frac(1, 1000))), withThings(things(impl.MaxThings+1)...), withThings(things(100)...))
	return append(list, withThings(append(things(9), thing(nameOf(0), whole(1), whole(0)))...))
}

func withThings(list ...Thing) Bench {
	return bench(even(whole(1), 20), Vernier{Parts: 10}, whole(0), list...)
}

func noGrowths() []Frac {
	return append(invalidFracs(), frac(-1, most), frac(-1, 1000), whole(-1), frac(1, 999), frac(1000001, most), frac(most/1000-1, most-1001), whole(1), whole(most), whole(least))
}

// badThings have one reason each not to be one of a valid bench.
func badThings() []Thing {
	list := []Thing{{}, {Name: "a"}}
	for _, name := range badNames() {
		list = append(list, thing(name, whole(1), whole(0)))
	}
	for _, a := range append(invalidFracs(), whole(0), whole(-1), frac(-1, most), whole(100001), frac(200001, 2), frac(most-1, 9999), whole(most), whole(least)) {
		list = append(list, thing("a", a, whole(0)))
	}
	for _, a := range noGrowths() {
		list = append(list, thing("a", whole(1), a))
	}
	return list
}

// isBench holds a bench against the rules of the document.
func isBench(b Bench) bool {
	isGrowth := func(a Frac) bool {
		return impl.ValidFrac(a) && a.P >= 0 && rat(a).Cmp(big.NewRat(1, 1000)) <= 0
	}
	if !impl.ValidScale(b.Scale) || !impl.ValidVernier(b.Vernier) || !isGrowth(b.Grows) || len(b.Things) > 10 {
		return false
	}
	for i, o := range b.Things {
		isDouble := slices.ContainsFunc(b.Things[:i], func(p Thing) bool { return p.Name == o.Name })
		if isDouble || !namePattern.MatchString(o.Name) || !impl.ValidFrac(o.Length) || o.Length.P <= 0 || rat(o.Length).Cmp(big.NewRat(100000, 1)) > 0 || !isGrowth(o.Grows) {
			return false
		}
	}
	return true
}

func isShot(b Bench, x Shot) bool {
	if !isBench(b) || x.Thing < 0 || x.Thing >= int64(len(b.Things)) || !impl.ValidFrac(x.Warm) || !impl.ValidFrac(x.Start) {
		return false
	}
	return new(big.Rat).Abs(rat(x.Warm)).Cmp(big.NewRat(100, 1)) <= 0
}

// startsOn returns places on the scale of a bench and beyond it, among them those at which a thing ends where a vernier can just be read.
func startsOn(b Bench, length Frac) []Frac {
	list := []Frac{whole(0), whole(2), frac(1, 2), frac(13, 10), frac(-1, 3), whole(-1), whole(most), whole(least), frac(1, most), frac(1, 999999937), whole(1 - most)}
	marks := new(reckoner).marks(b.Scale)
	first, last := marks[0], marks[len(marks)-1]
	line := new(big.Rat).Sub(last, new(reckoner).line(b.Scale, b.Vernier, whole(0), b.Vernier.Parts-1))
	for _, x := range []*big.Rat{first, last, line, new(big.Rat).Sub(last, rat(length)), new(big.Rat).Sub(line, rat(length))} {
		for _, by := range []*big.Rat{big.NewRat(0, 1), big.NewRat(1, 1000), big.NewRat(-1, 1000)} {
			if a, code := toldRat(by.Add(by, x)); code == impl.OK {
				list = append(list, a)
			}
		}
	}
	for n := range int64(8) {
		if a, code := toldRat(new(big.Rat).Mul(rat(b.Scale.Unit), big.NewRat(13*n+int64(length.Q%7), 24))); code == impl.OK {
			list = append(list, a)
		}
	}
	return list
}

func warmths() []Frac {
	return []Frac{whole(0), whole(20), whole(-20), whole(100), whole(-100), whole(1), frac(-1, 2), frac(37, 3), frac(1, 999999937), frac(199, 2), frac(-1, 7)}
}

func noWarmths() []Frac {
	return append(invalidFracs(), whole(101), whole(-101), frac(201, 2), frac(-201, 2), frac(most, most/100-1), frac(least, most/100-1), whole(most), whole(least))
}

// onShots calls check with valid benches and shots of all kinds: with all, or with many of them if there are too many.
func onShots(check func(b Bench, x Shot)) {
	random := rand.New(rand.NewSource(77))
	for _, b := range validBenches() {
		for i, o := range b.Things {
			for _, warm := range warmths() {
				for _, start := range startsOn(b, o.Length) {
					if random.Intn(10*len(b.Things)) == 0 {
						check(b, shot(int64(i), warm, start))
					}
				}
			}
		}
	}
}

// wrongShots are not valid for the example's bench, each for one reason.
func wrongShots() []Shot {
	list := []Shot{{}, {Thing: 1}}
	for _, i := range []int64{-1, 1, 2, 10, math.MaxInt64, math.MinInt64, math.MinInt64 + 1, 1 << 32, -1 << 32} {
		list = append(list, shot(i, whole(0), whole(2)))
	}
	for _, a := range noWarmths() {
		list = append(list, shot(0, a, whole(2)))
	}
	for _, a := range invalidFracs() {
		list = append(list, shot(0, whole(0), a), shot(-1, a, a))
	}
	return list
}

// couple is what both ends of a shot are, or are read as.
type couple struct{ first, second Frac }

func endsOf(b Bench, x Shot) (couple, int64) {
	first, second, code := impl.EndsOf(b, x)
	return couple{first, second}, code
}

func readEnds(b Bench, x Shot) (couple, int64) {
	first, second, code := impl.ReadEnds(b, x)
	return couple{first, second}, code
}

func (r *reckoner) stretch(grows, warm Frac) *big.Rat {
	return r.plus(big.NewRat(1, 1), r.times(rat(grows), rat(warm)))
}

func expectEnds(b Bench, x Shot) (couple, int64) {
	if !isShot(b, x) {
		return couple{}, impl.ErrInvalid
	}
	var r reckoner
	o := b.Things[x.Thing]
	second, code := r.told(r.plus(rat(x.Start), r.times(rat(o.Length), r.stretch(o.Grows, x.Warm))))
	if code != impl.OK {
		return couple{}, code
	}
	return couple{x.Start, second}, impl.OK
}

// expectReadEnds makes the ends, the stretch of the scale, the warm scale, and then both readings.
func expectReadEnds(b Bench, x Shot) (couple, int64) {
	ends, code := expectEnds(b, x)
	if code != impl.OK {
		return couple{}, code
	}
	var r reckoner
	c := r.stretch(b.Grows, x.Warm)
	by, code := r.told(new(big.Rat).Sub(c, big.NewRat(1, 1)))
	if code != impl.OK {
		return couple{}, code
	}
	warm, code := expectWarmScale(b.Scale, by)
	if code != impl.OK {
		return couple{}, code
	}
	var readings [2]Frac
	for i, end := range []Frac{ends.first, ends.second} {
		line, code := expectLineThatFits(warm, b.Vernier, end)
		reading, code := expectReading(warm, b.Vernier, end, line, code)
		if code != impl.OK {
			return couple{}, code
		}
		if readings[i], code = toldRat(new(big.Rat).Quo(rat(reading), c)); code != impl.OK {
			return couple{}, code
		}
	}
	return couple{readings[0], readings[1]}, impl.OK
}

// atZero returns what a distance of readings is at 0 degrees.
func (r *reckoner) atZero(b Bench, x Shot, distance *big.Rat) *big.Rat {
	return r.over(r.times(distance, r.stretch(b.Grows, x.Warm)), r.stretch(b.Things[x.Thing].Grows, x.Warm))
}

func expectLengthFrom(b Bench, x Shot, first, second Frac) (Frac, int64) {
	if !isShot(b, x) || !areValid([]Frac{first, second}) {
		return Frac{}, impl.ErrInvalid
	}
	var r reckoner
	return r.told(r.atZero(b, x, r.minus(rat(second), rat(first))))
}

func expectOpenSpan(b Bench, x Shot, first, second Frac) (Span, int64) {
	if !isShot(b, x) || !areValid([]Frac{first, second}) {
		return Span{}, impl.ErrInvalid
	}
	var r reckoner
	twice := r.times(big.NewRat(2, 1), r.worst(b.Scale))
	e := r.plus(r.over(rat(b.Scale.Unit), big.NewRat(2*b.Vernier.Parts, 1)), twice)
	distance, by := r.minus(rat(second), rat(first)), r.times(big.NewRat(2, 1), e)
	return r.toldEnds(ends{low: r.atZero(b, x, r.minus(distance, by)), high: r.atZero(b, x, r.plus(distance, by))})
}

func expectReport(b Bench, x Shot) (Report, int64) {
	readings, one := expectReadEnds(b, x)
	if one != impl.OK {
		return Report{}, one
	}
	length, two := expectLengthFrom(b, x, readings.first, readings.second)
	open, three := expectOpenSpan(b, x, readings.first, readings.second)
	if two+three != impl.OK {
		return Report{}, impl.ErrLimit
	}
	return Report{Shot: x, First: readings.first, Second: readings.second, Length: length, Open: open}, impl.OK
}

// sameBench fails if a bench and its code are not those that are expected.
func sameBench(t *testing.T, what any, got Bench, code int64, want Bench, wantCode int64) {
	t.Helper()
	isSame := got.Scale.Unit == want.Scale.Unit && slices.Equal(got.Scale.Errors, want.Scale.Errors) && got.Vernier == want.Vernier && got.Grows == want.Grows && slices.Equal(got.Things, want.Things)
	if !isSame || code != wantCode {
		t.Errorf("%+v: got %+v and %s, want %+v and %s", what, got, impl.CodeName(code), want, impl.CodeName(wantCode))
	}
}
