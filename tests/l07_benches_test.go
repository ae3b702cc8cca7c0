package tests

import (
	"math"
	"slices"
	"strings"
	"testing"

	"loop.example/g01254/impl"
)

func TestValidBench(t *testing.T) {
	checkValidity(t, impl.ValidBench, validBenches(), invalidBenches())
	for _, b := range append(validBenches(), invalidBenches()...) {
		if got := impl.ValidBench(b); got != isBench(b) {
			t.Errorf("%+v: valid is %t", b, got)
		}
	}
}

func TestValidBenchAtTheLimits(t *testing.T) {
	one := func(name string, length, grows Frac) Bench { return withThings(thing(name, length, grows)) }
	grown := func(grows Frac) Bench { return bench(even(whole(1), 20), Vernier{Parts: 10}, grows) }
	checkValidity(t, impl.ValidBench, []Bench{
		one("a", whole(1), whole(0)), one("z", whole(1), whole(0)), one("abcdefghijkl", whole(1), whole(0)), one("zzzzzzzzzzzz", whole(1), whole(0)),
		one("a", whole(100000), whole(0)), one("a", frac(1, most), whole(0)), one("a", frac(199999, 2), whole(0)), one("a", frac(most-1, 10000), whole(0)),
		one("a", whole(1), frac(1, 1000)), one("a", whole(1), frac(1, most)), one("a", whole(1), frac(999999, most)), grown(whole(0)), grown(frac(1, 1000)), grown(frac(1, most)), grown(frac(999999, most)),
		withThings(), withThings([]Thing{}...), withThings(things(1)...), withThings(things(10)...), withThings(thing("a", whole(1), whole(0)), thing("aa", whole(1), whole(0)), thing("b", whole(1), whole(0))),
	}, []Bench{
		one("", whole(1), whole(0)), one("abcdefghijklm", whole(1), whole(0)), one("a1", whole(1), whole(0)), one("Rod", whole(1), whole(0)), one("a b", whole(1), whole(0)),
		one("a", whole(0), whole(0)), one("a", whole(-1), whole(0)), one("a", whole(100001), whole(0)), one("a", frac(200001, 2), whole(0)), one("a", frac(2, 4), whole(0)),
		one("a", whole(1), frac(-1, most)), one("a", whole(1), frac(1, 999)), one("a", whole(1), frac(1000001, most)), one("a", whole(1), frac(2, 4000)), grown(frac(-1, most)), grown(frac(1, 999)), grown(frac(1000001, most)), grown(frac(2, 4000)), grown(Frac{}),
		withThings(things(11)...), withThings(thing("a", whole(1), whole(0)), thing("a", whole(2), whole(0))),
	})
}

// changedBenches returns benches each of which differs from a given one in one part.
func changedBenches(b Bench) []Bench {
	var list []Bench
	for _, change := range []func(b *Bench){
		func(b *Bench) { b.Scale.Unit = frac(77, 78) }, func(b *Bench) { b.Scale.Errors = append(b.Scale.Errors, whole(0)) }, func(b *Bench) { b.Scale.Errors[0] = frac(1, 77) }, func(b *Bench) { b.Scale.Errors = nil },
		func(b *Bench) { b.Vernier.Parts++ }, func(b *Bench) { b.Vernier.Back = !b.Vernier.Back }, func(b *Bench) { b.Grows = frac(1, 77777) },
		func(b *Bench) { b.Things = append(b.Things, thing("new", whole(1), whole(0))) }, func(b *Bench) { b.Things = b.Things[1:] }, func(b *Bench) { b.Things[0].Name += "x" }, func(b *Bench) { b.Things[0].Length = frac(77, 78) }, func(b *Bench) { b.Things[0].Grows = frac(1, 7777) },
	} {
		other := b
		other.Scale.Errors, other.Things = slices.Clone(b.Scale.Errors), slices.Clone(b.Things)
		change(&other)
		list = append(list, other)
	}
	return list
}

func TestSameBench(t *testing.T) {
	for _, b := range append(validBenches(), invalidBenches()...) {
		clone := b
		clone.Scale.Errors, clone.Things = slices.Clone(b.Scale.Errors), slices.Clone(b.Things)
		if !impl.SameBench(b, b) || !impl.SameBench(b, clone) {
			t.Errorf("%+v is not the same as itself", b)
		}
		if len(b.Things) == 0 || len(b.Scale.Errors) == 0 {
			continue
		}
		for _, other := range changedBenches(b) {
			if impl.SameBench(b, other) || impl.SameBench(other, b) {
				t.Errorf("%+v is the same as %+v", b, other)
			}
		}
	}
	none, empty := withThings(), withThings()
	empty.Things = make([]Thing, 0, 5)
	if !impl.SameBench(none, empty) || !impl.SameBench(empty, none) || !impl.SameBench(Bench{}, Bench{Scale: Scale{Errors: []Frac{}}}) {
		t.Error("no things and an empty list of them are not the same")
	}
	// What is equal by its value alone is not deeply equal.
	if impl.SameBench(withThings(thing("a", whole(1), whole(0))), withThings(thing("a", frac(2, 2), whole(0)))) {
		t.Error("2/2 is not 1/1")
	}
}

func TestFindThing(t *testing.T) {
	for _, b := range validBenches() {
		for i, o := range b.Things {
			found, code := impl.FindThing(b, o.Name)
			same(t, o.Name, found, code, int64(i), impl.OK)
			for _, name := range []string{o.Name + "y", o.Name[1:] + "y", strings.ToUpper(o.Name), o.Name + "\x00", " " + o.Name} {
				found, code := impl.FindThing(b, name)
				same(t, name, found, code, 0, impl.ErrNotFound)
			}
		}
		for _, name := range append(badNames(), "none") {
			found, code := impl.FindThing(b, name)
			same(t, name, found, code, 0, impl.ErrNotFound)
		}
	}
	for _, b := range invalidBenches() {
		for _, name := range []string{"a", "b", "none", ""} {
			found, code := impl.FindThing(b, name)
			same(t, []any{b, name}, found, code, 0, impl.ErrInvalid)
		}
	}
	found, code := impl.FindThing(warmBench(), "cube")
	same(t, "cube", found, code, 3, impl.OK)
}

// expectFoundErrors adds up what is expected of the corrections.
func expectFoundErrors(s Scale) ([]Frac, int64) {
	table, code := expectPairTable(s)
	if code != impl.OK {
		return nil, code
	}
	list, code := expectCorrections(table)
	if code != impl.OK {
		return nil, code
	}
	var r reckoner
	all := rats(s.Errors[:1])
	for i, a := range list {
		all = append(all, r.plus(all[i], rat(a)))
	}
	return r.toldList(all)
}

func TestFoundErrors(t *testing.T) {
	told, off := map[int64]int{}, 0
	for _, s := range intervalScales() {
		want, wantCode := expectFoundErrors(s)
		got, code := impl.FoundErrors(s)
		sameList(t, s, got, code, want, wantCode)
		if code == impl.OK && !slices.Equal(got, s.Errors) {
			t.Errorf("%+v: found %v", s, got)
		}
		if code == impl.OK && s.Errors[0].P != 0 {
			off++
		}
		told[code]++
	}
	enough(t, told, 3, impl.OK, impl.ErrRange, impl.ErrLimit)
	if off < 5 {
		t.Errorf("only %d begin with an error", off)
	}
	for _, s := range invalidScales() {
		got, code := impl.FoundErrors(s)
		sameList(t, s, got, code, nil, impl.ErrInvalid)
	}
}

func TestFoundErrorsByHand(t *testing.T) {
	for _, c := range []struct {
		s    Scale
		code int64
	}{
		{scale(whole(1), whole(0), frac(1, 8), frac(1, 4)), impl.OK}, {scale(whole(1), frac(1, 8), whole(0), frac(-1, 4)), impl.OK}, {scale(whole(1), frac(-1, 4), frac(1, 4), frac(-1, 4), frac(1, 4), whole(0), frac(1, 5), frac(1, 7)), impl.OK}, {even(frac(3, 7), 7), impl.OK}, {even(whole(1), 3), impl.OK},
		{even(whole(1), 2), impl.ErrRange}, {even(whole(1), 8), impl.ErrRange}, {even(whole(1), impl.MaxMarks), impl.ErrRange}, {scale(whole(1), frac(1, 8), whole(0)), impl.ErrRange}, {even(whole(1), 1), impl.ErrInvalid}, {even(whole(1), impl.MaxMarks+1), impl.ErrInvalid}, {scale(whole(1), whole(0), frac(1, 3), whole(0)), impl.ErrInvalid}, {Scale{}, impl.ErrInvalid},
		{scale(frac(1, 2), frac(1, 31627), frac(1, 31643), whole(0)), impl.ErrLimit}, {scale(frac(1, 2), whole(0), frac(1, 997), frac(1, 1009), frac(1, 1013)), impl.ErrLimit},
	} {
		var want []Frac
		if c.code == impl.OK {
			want = c.s.Errors
		}
		got, code := impl.FoundErrors(c.s)
		sameList(t, c.s, got, code, want, c.code)
	}
}

func TestCorrectBench(t *testing.T) {
	told := map[int64]int{}
	for _, b := range validBenches() {
		n := len(b.Scale.Errors)
		near := repeated(whole(0), n)
		near[n-1] = frac(1, 20)
		for _, by := range [][]Frac{b.Scale.Errors, nil, {}, b.Scale.Errors[1:], append(slices.Clone(b.Scale.Errors), whole(0)), near, repeated(whole(0), n), repeated(frac(1, 8), n), repeated(whole(300), n), repeated(frac(1, 999999937), n), repeated(whole(most), n-1)} {
			corrected, wantCode := expectCorrectScale(b.Scale, by)
			want := Bench{}
			if wantCode == impl.OK {
				want = bench(corrected, b.Vernier, b.Grows, b.Things...)
			}
			got, code := impl.CorrectBench(b, by)
			sameBench(t, []any{b, by}, got, code, want, wantCode)
			if code == impl.OK && !impl.ValidBench(got) {
				t.Errorf("%+v, corrected by %v, is not valid", b, by)
			}
			told[code]++
		}
		for _, a := range invalidFracs() {
			for _, by := range [][]Frac{{a}, append(slices.Clone(b.Scale.Errors[1:]), a), append([]Frac{a}, b.Scale.Errors...), {whole(most), a}} {
				got, code := impl.CorrectBench(b, by)
				sameBench(t, []any{b, by}, got, code, Bench{}, impl.ErrInvalid)
			}
		}
	}
	enough(t, told, 20, impl.OK, impl.ErrRange, impl.ErrLimit, impl.ErrState)
	for _, b := range invalidBenches() {
		for _, by := range [][]Frac{nil, b.Scale.Errors, repeated(whole(0), 20), {frac(2, 4)}} {
			got, code := impl.CorrectBench(b, by)
			sameBench(t, []any{b, by}, got, code, Bench{}, impl.ErrInvalid)
		}
	}
}

func TestCorrectBenchByHand(t *testing.T) {
	both := []Thing{thing("a", whole(1), whole(0)), thing("b", whole(2), frac(1, 1000))}
	b := bench(scale(whole(1), frac(1, 8), frac(-1, 8), whole(0)), Vernier{Parts: 3, Back: true}, frac(1, 2000), both...)
	for _, c := range []struct {
		by   []Frac
		want []Frac
		code int64
	}{
		{[]Frac{frac(1, 8), frac(-1, 8), whole(0)}, []Frac{whole(0), whole(0), whole(0)}, impl.OK}, {[]Frac{whole(0), whole(0), frac(1, 4)}, []Frac{frac(1, 8), frac(-1, 8), frac(-1, 4)}, impl.OK},
		{[]Frac{whole(0), whole(0), frac(2, 7)}, nil, impl.ErrState}, {[]Frac{whole(2), frac(1, most-1), whole(0)}, nil, impl.ErrLimit}, {[]Frac{frac(1, 8), frac(-1, 8)}, nil, impl.ErrRange}, {[]Frac{whole(0), whole(0), whole(0), whole(0)}, nil, impl.ErrRange}, {[]Frac{frac(1, most-1)}, nil, impl.ErrRange}, {nil, nil, impl.ErrRange}, {[]Frac{frac(2, 4)}, nil, impl.ErrInvalid}, {[]Frac{whole(math.MinInt64), whole(0), whole(0)}, nil, impl.ErrInvalid},
	} {
		want := Bench{}
		if c.code == impl.OK {
			want = bench(scale(whole(1), c.want...), Vernier{Parts: 3, Back: true}, frac(1, 2000), both...)
		}
		got, code := impl.CorrectBench(b, c.by)
		sameBench(t, c, got, code, want, c.code)
	}
}
