package tests

import (
	"math"
	"math/big"
	"math/rand"
	"slices"
	"strings"
	"testing"

	"loop.example/g01254/impl"
)

// TestPromise1EveryFunctionOfComparisonsReturns calls every function of chapter 4 twice, with arguments of all kinds.
func TestPromise1EveryFunctionOfComparisonsReturns(t *testing.T) {
	tables := append(validTables(), invalidTables()...)
	scales := append(intervalScales(), invalidScales()...)
	fracs := append(validFracs(), invalidFracs()...)
	numbers := []int64{0, 1, -1, 5, 24, 1000000000, 1000000001, math.MaxInt64, math.MinInt64, math.MinInt64 + 1}
	for i, u := range tables {
		a, n, s := fracs[i%len(fracs)], numbers[i%len(numbers)], scales[i%len(scales)]
		twice(t, func() any { return impl.ValidTable(u) })
		twice(t, func() any { return impl.SameTable(u, tables[(7*i+1)%len(tables)]) })
		twice(t, func() any { return triple(impl.NormalOf(u)) })
		twice(t, func() any { return results(impl.CorrectionsOf(u)) })
		twice(t, func() any { return results(impl.FreeOf(u)) })
		twice(t, func() any { return results(impl.WithoutObs(u, n)) })
		twice(t, func() any { return impl.TableText(u) })
		twice(t, func() any { return results(impl.ReadTable(impl.TableText(u) + impl.FracText(a))) })
		twice(t, func() any { return results(impl.IntervalErrors(s)) })
		twice(t, func() any { return results(impl.PairTable(s)) })
		for m := range 9 {
			x := slices.Concat(fracs[i%len(fracs):], fracs)[:m]
			twice(t, func() any { return results(impl.ResidualsOf(u, x)) })
			twice(t, func() any { return results(impl.SquaresOf(u, x)) })
			twice(t, func() any { return results(impl.IsLeast(u, x)) })
			twice(t, func() any { return triple(impl.WorstObs(u, x)) })
			twice(t, func() any { return results(impl.ShareEvenly(x, a)) })
			twice(t, func() any { return results(impl.ShareWhole(append(numbers[:m:m], n), n)) })
			twice(t, func() any { return results(impl.RingTable(x, a)) })
			twice(t, func() any { return results(impl.ErrorsFrom(a, whole(0), x)) })
			twice(t, func() any { return results(impl.SolveFracs(repeated(x, m), x)) })
		}
	}
}

// lists are beginnings of longer ones, whose ends must not change, either.
type lists struct {
	obs, oldObs     []Obs
	fracs, oldFracs []Frac
	whole, oldWhole []int64
}

func listsOf(obsList []Obs, fracList []Frac, wholeList []int64) lists {
	l := lists{
		obs:   append(slices.Clone(obsList), heavy(-7, frac(0, 0), 99), obs(whole(88), 77)),
		fracs: append(slices.Clone(fracList), frac(-7, 3), frac(0, 0)),
		whole: append(slices.Clone(wholeList), 77, -78),
	}
	l.oldObs, l.oldFracs, l.oldWhole = slices.Clone(l.obs), slices.Clone(l.fracs), slices.Clone(l.whole)
	return l
}

func (l lists) check(t *testing.T, what any) {
	t.Helper()
	if !slices.Equal(l.obs, l.oldObs) || !slices.Equal(l.fracs, l.oldFracs) || !slices.Equal(l.whole, l.oldWhole) {
		t.Errorf("%+v: lists have become %v, %v and %v", what, l.obs, l.fracs, l.whole)
	}
}

func TestPromise1NoTableIsModified(t *testing.T) {
	for _, old := range append(validTables(), invalidTables()...) {
		n := min(max(old.Count, 0), 7)
		l := listsOf(old.Obs, rising(int(n)), rising64(int(n)))
		u, x := old, l.fracs[:n]
		u.Obs = l.obs[:len(old.Obs)]
		impl.ValidTable(u)
		impl.SameTable(u, u)
		impl.NormalOf(u)
		impl.CorrectionsOf(u)
		impl.ResidualsOf(u, x)
		impl.SquaresOf(u, x)
		impl.IsLeast(u, x)
		impl.FreeOf(u)
		impl.WorstObs(u, x)
		for i := range u.Obs {
			impl.WithoutObs(u, int64(i))
		}
		impl.ShareEvenly(x, frac(1, 2))
		impl.ShareWhole(l.whole[:n], 5)
		impl.RingTable(x, whole(0))
		impl.ErrorsFrom(whole(100), whole(1), x)
		impl.TableText(u)
		l.check(t, old)
	}
	for _, s := range intervalScales() {
		l := listsOf(nil, s.Errors, nil)
		u := Scale{Unit: s.Unit, Errors: l.fracs[:len(s.Errors)]}
		impl.IntervalErrors(u)
		impl.PairTable(u)
		l.check(t, s)
	}
}

func rising64(n int) []int64 {
	var list []int64
	for i := range n {
		list = append(list, int64(i))
	}
	return list
}

// TestPromise1NoEquationsAreModified has rows that change places, and rows of which several are the same memory.
func TestPromise1NoEquationsAreModified(t *testing.T) {
	for _, e := range validEquations() {
		n := len(e.right)
		right := listsOf(nil, e.right, nil)
		var rows []lists
		var given, shared [][]Frac
		for _, row := range e.rows {
			l := listsOf(nil, row, nil)
			rows, given = append(rows, l), append(given, l.fracs[:n])
			shared = append(shared, given[0])
		}
		impl.SolveFracs(given, right.fracs[:n])
		impl.SolveFracs(shared, given[n-1])
		right.check(t, e)
		for i, l := range rows {
			l.check(t, e)
			if &given[i][0] != &l.fracs[0] {
				t.Errorf("%v: the row %d is another one", e, i)
			}
		}
	}
}

// TestPromise1ListsOfComparisonsShareNoMemory writes into all that results have room for.
func TestPromise1ListsOfComparisonsShareNoMemory(t *testing.T) {
	u := closedTable(2, whole(5), obs(whole(1), 1), obs(whole(2), 0, 1), obs(whole(4), 1, -1))
	x, s := wholes(2, 3), scale(whole(1), whole(0), frac(1, 8), frac(-1, 8), frac(1, 4))
	e := identity(3)
	for i, build := range []func() ([]Frac, int64){
		func() ([]Frac, int64) { return impl.CorrectionsOf(u) },
		func() ([]Frac, int64) { return impl.ResidualsOf(u, x) },
		func() ([]Frac, int64) { return impl.SolveFracs(e.rows, e.right) },
		func() ([]Frac, int64) { return impl.ShareEvenly(x, whole(5)) },
		func() ([]Frac, int64) { return impl.IntervalErrors(s) },
		func() ([]Frac, int64) {
			_, right, code := impl.NormalOf(u)
			return right, code
		},
		func() ([]Frac, int64) {
			made, code := impl.ErrorsFrom(whole(100), whole(1), x)
			return made.Errors, code
		},
	} {
		one, _ := build()
		two, code := build()
		want := slices.Clone(two)
		spoil(one, frac(-9, 77))
		sameList(t, i, two, code, want, impl.OK)
	}
	sameTable(t, "the table", u, 0, closedTable(2, whole(5), obs(whole(1), 1), obs(whole(2), 0, 1), obs(whole(4), 1, -1)), 0)
	sameList(t, "the numbers", x, 0, wholes(2, 3), 0)
	sameList(t, "the errors", s.Errors, 0, []Frac{whole(0), frac(1, 8), frac(-1, 8), frac(1, 4)}, 0)
	list := []int64{10, 10, 10}
	one, _ := impl.ShareWhole(list, 30)
	spoil(one, -999)
	sameList(t, "whole", list, 0, []int64{10, 10, 10}, 0)
}

// spoil writes into all that a list has room for.
func spoil[T any](list []T, by T) {
	all := list[:cap(list)]
	for i := range all {
		all[i] = by
	}
}

func TestPromise1TablesShareNoMemory(t *testing.T) {
	u := openTable(1, obs(whole(1), 1), obs(whole(2), 1), obs(whole(3), 1), obs(whole(4), 1))
	diffs := wholes(1, 2, 3)
	for i, build := range []func() (Table, int64){
		func() (Table, int64) { return impl.WithoutObs(u, 0) },
		func() (Table, int64) { return impl.WithoutObs(u, 3) },
		func() (Table, int64) { return impl.RingTable(diffs, whole(0)) },
		func() (Table, int64) { return impl.PairTable(even(whole(1), 4)) },
		func() (Table, int64) { return impl.ReadTable("1\n1 2 3\n") },
	} {
		one, _ := build()
		two, code := build()
		want := two
		want.Obs = slices.Clone(two.Obs)
		spoil(one.Obs, heavy(-1, whole(77), 7))
		sameTable(t, i, two, code, want, impl.OK)
	}
	sameTable(t, "the table", u, 0, openTable(1, obs(whole(1), 1), obs(whole(2), 1), obs(whole(3), 1), obs(whole(4), 1)), 0)
	// No row shares memory with another one, or with the right sides.
	for _, c := range []Table{u, closedTable(2, whole(5), obs(whole(1), 1, -1)), closedTable(6, whole(0))} {
		wantRows, wantRight, _ := impl.NormalOf(c)
		for i := range wantRows {
			rows, right, _ := impl.NormalOf(c)
			spoil(rows[i], frac(-9, 77))
			rows[i] = wantRows[i]
			checkNormal(t, c, rows, right, 0, wantRows, wantRight, 0)
		}
	}
}

func TestPromise1NilListsOfComparisonsAreEmpty(t *testing.T) {
	for _, list := range [][]Frac{nil, make([]Frac, 0, 5)} {
		solved, code := impl.SolveFracs(nil, list)
		sameList(t, "solve", solved, code, nil, impl.ErrRange)
		solved, code = impl.SolveFracs([][]Frac{list}, list)
		sameList(t, "solve a row", solved, code, nil, impl.ErrRange)
		residuals, code := impl.ResidualsOf(openTable(1), list)
		sameList(t, "residuals", residuals, code, nil, impl.ErrRange)
		shared, code := impl.ShareEvenly(list, whole(0))
		sameList(t, "share", shared, code, nil, impl.ErrRange)
		ring, code := impl.RingTable(list, whole(0))
		sameTable(t, "ring", ring, code, Table{}, impl.ErrRange)
		made, code := impl.ErrorsFrom(whole(1), whole(0), list)
		sameScale(t, "errors", made, code, Scale{}, impl.ErrRange)
	}
	empty := Table{Count: 2, Obs: make([]Obs, 0, 5), Closed: true, Total: whole(3)}
	for _, u := range []Table{closedTable(2, whole(3)), empty} {
		free, code := impl.FreeOf(u)
		same(t, "free", free, code, 1, impl.OK)
		residuals, code := impl.ResidualsOf(u, wholes(1, 2))
		sameList(t, "residuals", residuals, code, nil, impl.OK)
		if text := impl.TableText(u); text != "2 closed 3\n" {
			t.Errorf("got %q", text)
		}
	}
}

func TestPromise1VeryLongListsOfComparisons(t *testing.T) {
	const elements = 1000000
	long := openTable(1, repeated(obs(whole(1), 1), elements/9)...)
	if impl.ValidTable(long) || !impl.SameTable(long, openTable(1, repeated(obs(whole(1), 1), elements/9)...)) || impl.TableText(long) != "" {
		t.Error("a very long table is not told as it is")
	}
	corrections, code := impl.CorrectionsOf(long)
	sameList(t, "corrections", corrections, code, nil, impl.ErrInvalid)
	fracs := repeated(whole(1), elements)
	for _, want := range []int64{impl.ErrRange, impl.ErrInvalid} {
		solved, code := impl.SolveFracs([][]Frac{fracs[:1]}, fracs)
		sameList(t, "solve", solved, code, nil, want)
		solved, code = impl.SolveFracs([][]Frac{fracs}, nil)
		sameList(t, "solve a row", solved, code, nil, want)
		residuals, code := impl.ResidualsOf(openTable(1), fracs)
		sameList(t, "residuals", residuals, code, nil, want)
		least, code := impl.IsLeast(openTable(1), fracs)
		same(t, "least", least, code, false, want)
		shared, code := impl.ShareEvenly(fracs, whole(0))
		sameList(t, "share", shared, code, nil, want)
		ring, code := impl.RingTable(fracs, whole(0))
		sameTable(t, "ring", ring, code, Table{}, want)
		made, code := impl.ErrorsFrom(whole(1), whole(0), fracs)
		sameScale(t, "errors", made, code, Scale{}, want)
		fracs[elements-1] = frac(math.MinInt64, math.MinInt64)
	}
	shared, code := impl.ShareWhole(make([]int64, elements), 0)
	sameList(t, "whole", shared, code, nil, impl.ErrRange)
	solved, code := impl.SolveFracs(make([][]Frac, elements), nil)
	sameList(t, "rows", solved, code, nil, impl.ErrRange)
	read, code := impl.ReadTable("1\n" + strings.Repeat("1 1 1\n", elements/6))
	sameTable(t, "read", read, code, Table{}, impl.ErrSyntax)
}

// squaresAt calculates the sum of squares with numbers of any parts.
func squaresAt(u Table, x []*big.Rat) *big.Rat {
	sum := new(big.Rat)
	for _, o := range u.Obs {
		rest := rat(o.Diff)
		for k, a := range x {
			rest.Sub(rest, new(big.Rat).Mul(big.NewRat(int64(o.Coef[k]), 1), a))
		}
		sum.Add(sum, rest.Mul(rest, rest).Mul(rest, big.NewRat(o.Weight, 1)))
	}
	return sum
}

// TestPromise8CorrectionsAreLeast changes corrections, by little and by much, so that their sum stays the total if the table is closed.
func TestPromise8CorrectionsAreLeast(t *testing.T) {
	random := rand.New(rand.NewSource(8))
	checked := map[bool]int{}
	for _, u := range validTables() {
		x, code := impl.CorrectionsOf(u)
		if code != impl.OK {
			continue
		}
		if u.Closed && new(reckoner).sum(rats(x)).Cmp(rat(u.Total)) != 0 {
			t.Errorf("%+v: the sum of %v is not the total", u, x)
		}
		if least, code := impl.IsLeast(u, x); code != impl.ErrLimit && (!least || code != impl.OK) {
			t.Errorf("%+v: %v is not least", u, x)
		}
		squares := squaresAt(u, rats(x))
		if told, code := impl.SquaresOf(u, x); code != impl.ErrLimit && (rat(told).Cmp(squares) != 0 || code != impl.OK) {
			t.Errorf("%+v: the squares of %v are %v", u, x, told)
		}
		for range 20 {
			other, size, changed := rats(x), []int64{1, 10, 1000}[random.Intn(3)], false
			for k := range other {
				by := big.NewRat(random.Int63n(2*size+1)-size, 1+random.Int63n(1000))
				other[k].Add(other[k], by)
				if u.Closed {
					other[(k+1)%len(other)].Sub(other[(k+1)%len(other)], by)
				}
			}
			for k, a := range x {
				changed = changed || other[k].Cmp(rat(a)) != 0
			}
			if changed && squaresAt(u, other).Cmp(squares) <= 0 {
				t.Errorf("%+v: the squares of %v are no greater than those of %v", u, other, x)
			}
			if changed {
				checked[u.Closed]++
			}
		}
	}
	if checked[true] < 500 || checked[false] < 500 {
		t.Errorf("only %v were compared", checked)
	}
}

// exactTable returns a table whose observations say what numbers are.
func exactTable(random *rand.Rand, x []Frac) Table {
	u := Table{Count: int64(len(x)), Closed: random.Intn(2) == 0, Total: whole(0)}
	for range 1 + random.Intn(24) {
		o := someObs(random, u.Count, wholes(0))
		diff := new(big.Rat)
		for k, a := range x {
			diff.Add(diff, new(big.Rat).Mul(big.NewRat(int64(o.Coef[k]), 1), rat(a)))
		}
		o.Diff, _ = toldRat(diff)
		u.Obs = append(u.Obs, o)
	}
	if u.Closed {
		u.Total, _ = toldRat(new(reckoner).sum(rats(x)))
	}
	return u
}

// TestPromise8ErrorsAreFound makes observations without errors, which leave no residuals, and from which the numbers follow if there is one answer.
func TestPromise8ErrorsAreFound(t *testing.T) {
	random := rand.New(rand.NewSource(88))
	found, free := map[bool]int{}, 0
	for range 1500 {
		var x []Frac
		for range 1 + random.Intn(6) {
			x = append(x, smallFracs()[random.Intn(11)])
		}
		u := exactTable(random, x)
		if !impl.ValidTable(u) {
			t.Fatalf("%+v is not valid", u)
		}
		residuals, code := impl.ResidualsOf(u, x)
		sameList(t, []any{u, x}, residuals, code, repeated(whole(0), len(u.Obs)), impl.OK)
		least, code := impl.IsLeast(u, x)
		same(t, []any{"least", u, x}, least, code, true, impl.OK)
		got, code := impl.CorrectionsOf(u)
		switch code {
		case impl.OK:
			sameList(t, u, got, code, x, impl.OK)
			found[u.Closed]++
		case impl.ErrState:
			if expectFree(u) == 0 {
				t.Errorf("%+v has one answer", u)
			}
			free++
		}
	}
	if found[true] < 200 || found[false] < 200 || free < 100 {
		t.Errorf("found %v, and %d free", found, free)
	}
}

// TestPromise8ErrorsOfIntervalsAreFound compares the intervals of scales with each other, and makes the scales from what is found.
func TestPromise8ErrorsOfIntervalsAreFound(t *testing.T) {
	random := rand.New(rand.NewSource(888))
	found := 0
	scales := intervalScales()
	for range 300 {
		s := someScale(random, []int64{3, 100}[random.Intn(2)])
		s.Errors = s.Errors[:min(len(s.Errors), 3+random.Intn(5))]
		scales = append(scales, s)
	}
	for _, s := range scales {
		u, code := impl.PairTable(s)
		if code != impl.OK {
			continue
		}
		intervals, _ := impl.IntervalErrors(s)
		got, code := impl.CorrectionsOf(u)
		if code == impl.ErrLimit {
			continue
		}
		sameList(t, s, got, code, intervals, impl.OK)
		back, code := impl.ErrorsFrom(s.Unit, s.Errors[0], got)
		sameScale(t, s, back, code, s, impl.OK)
		found++
	}
	if found < 300 {
		t.Errorf("only %d were found", found)
	}
}

// TestErrorsFromUndoesIntervalErrors does so with scales of any length.
func TestErrorsFromUndoesIntervalErrors(t *testing.T) {
	for _, s := range intervalScales() {
		intervals, code := impl.IntervalErrors(s)
		if code != impl.OK {
			continue
		}
		back, code := impl.ErrorsFrom(s.Unit, s.Errors[0], intervals)
		sameScale(t, s, back, code, s, impl.OK)
	}
}

// TestPromise9ClosingErrorsAreGone adds up what is left, and compares what has been taken away.
func TestPromise9ClosingErrorsAreGone(t *testing.T) {
	shared, negative := 0, 0
	for _, list := range differenceLists() {
		for _, total := range []Frac{whole(0), whole(7), frac(-1, 2), whole(-100)} {
			left, code := impl.ShareEvenly(list, total)
			if code != impl.OK {
				continue
			}
			shared++
			if len(left) != len(list) || new(reckoner).sum(rats(left)).Cmp(rat(total)) != 0 {
				t.Errorf("%v and %v: the sum of %v is another one", list, total, left)
				continue
			}
			first := new(big.Rat).Sub(rat(list[0]), rat(left[0]))
			if first.Sign() < 0 {
				negative++
			}
			for i := range left {
				if new(big.Rat).Sub(rat(list[i]), rat(left[i])).Cmp(first) != 0 {
					t.Errorf("%v and %v: %v has been taken away unevenly", list, total, left)
				}
			}
			// Shared out again, nothing is taken away, if the sum is told.
			if again, code := impl.ShareEvenly(left, total); code != impl.ErrLimit {
				sameList(t, []any{left, total}, again, code, left, impl.OK)
			}
		}
	}
	if shared < 200 || negative < 50 {
		t.Errorf("only %d were shared, %d of them less than 0", shared, negative)
	}
}

// TestPromise9WholeClosingErrorsAreGone does so with whole numbers, of which the first ones lose 1 more.
func TestPromise9WholeClosingErrorsAreGone(t *testing.T) {
	random := rand.New(rand.NewSource(9))
	for range 3000 {
		size := []int64{2, 50, 1000000000}[random.Intn(3)]
		var list []int64
		sum := int64(0)
		for range 1 + random.Intn(64) {
			list = append(list, random.Int63n(2*size+1)-size)
			sum += list[len(list)-1]
		}
		total := random.Int63n(2*size+1) - size
		left, code := impl.ShareWhole(list, total)
		if code != impl.OK || len(left) != len(list) {
			t.Fatalf("%v and %d: got %v and %s", list, total, left, impl.CodeName(code))
		}
		share := floorRat(big.NewRat(sum-total, int64(len(list)))).Int64()
		isLess := false
		for i := range left {
			sum -= list[i] - left[i]
			taken := list[i] - left[i]
			isLess = isLess || taken == share
			if taken != share && (taken != share+1 || isLess) {
				t.Errorf("%v and %d: the number %d loses %d", list, total, i, taken)
			}
		}
		if sum != total {
			t.Errorf("%v and %d: the sum of %v is %d", list, total, left, sum)
		}
	}
}

// TestPromise9RingsAreClosed compares the corrections of a ring with its differences, from which the closing error has been shared out.
func TestPromise9RingsAreClosed(t *testing.T) {
	random := rand.New(rand.NewSource(99))
	for range 300 {
		var diffs []Frac
		for range 2 + random.Intn(5) {
			diffs = append(diffs, smallFracs()[random.Intn(11)])
		}
		total := smallFracs()[random.Intn(11)]
		ring, code := impl.RingTable(diffs, total)
		if code != impl.OK {
			t.Fatalf("%v: no ring", diffs)
		}
		x, code := impl.CorrectionsOf(ring)
		shared, sharedCode := impl.ShareEvenly(diffs, whole(0))
		if code != impl.OK || sharedCode != impl.OK {
			t.Fatalf("%+v: %s and %s", ring, impl.CodeName(code), impl.CodeName(sharedCode))
		}
		for i, a := range x {
			next := x[(i+1)%len(x)]
			if new(big.Rat).Sub(rat(a), rat(next)).Cmp(rat(shared[i])) != 0 {
				t.Errorf("%v: the difference %d of %v is not that of %v", diffs, i, x, shared)
			}
		}
	}
}
