package tests

import (
	"math"
	"slices"
	"sort"
	"testing"

	"loop.example/g01254/impl"
)

func TestValidChain(t *testing.T) {
	checkValidity(t, impl.ValidChain, validChains(), invalidChains())
	for _, list := range append(validChains(), invalidChains()...) {
		if impl.ValidChain(list) != isChain(list) {
			t.Errorf("%+v: valid is %t", list, !isChain(list))
		}
	}
}

// TestValidChainByItsLimits changes one thing of a valid chain after the other.
func TestValidChainByItsLimits(t *testing.T) {
	pairOf := func(first, second Standard) []Standard { return []Standard{first, second} }
	by := standard("by", -1, between(0, 1), whole(1), 10, 20)
	made := func(day int64) []Standard { return pairOf(by, standard("x", 0, between(0, 1), whole(1), day, 5)) }
	from := func(i int64) []Standard {
		return append(pairOf(by, standard("x", i, between(0, 1), whole(1), 20, 5)), standard("y", -1, between(0, 1), whole(1), 20, 5))
	}
	named := func(name string) []Standard { return pairOf(by, steady(name, -1, between(0, 0))) }
	alone := func(drift Frac, made, good int64) []Standard {
		return []Standard{standard("a", -1, between(0, 0), drift, made, good)}
	}
	for _, c := range []struct {
		what string
		list []Standard
		want bool
	}{
		{"nil", nil, true}, {"empty", []Standard{}, true}, {"30", firstOnes(30), true}, {"31", firstOnes(31), false}, {"30 in a line", lineChain(30, between(0, 0), whole(0), 1), true},
		{"made ahead of it", made(9), false}, {"on its first day", made(10), true}, {"on its last day", made(30), true}, {"behind it", made(31), false}, {"far behind it", made(impl.MaxDay), false},
		{"from -1", from(-1), true}, {"from -2", from(-2), false}, {"from an earlier one", from(0), true}, {"from itself", from(1), false}, {"from a later one", from(2), false}, {"from none", from(3), false}, {"from the least", from(math.MinInt64), false}, {"from the greatest", from(math.MaxInt64), false},
		{"no letter", named(""), false}, {"a letter", named("x"), true}, {"12 letters", named("abcdefghijkz"), true}, {"13 letters", named("abcdefghijklm"), false}, {"equal names", named("by"), false}, {"the beginning of a name", named("b"), true}, {"a longer name", named("byy"), true}, {"a great letter", named("By"), false},
		{"drift 0", alone(whole(0), 0, 0), true}, {"a little drift", alone(frac(1, most), 0, 0), true}, {"drift less than 0", alone(frac(-1, most), 0, 0), false}, {"the greatest drift", alone(whole(most), 0, impl.MaxDay), true}, {"no drift", alone(frac(0, 0), 0, 0), false},
		{"made 0", alone(whole(0), 0, 5), true}, {"made -1", alone(whole(0), -1, 5), false}, {"made MaxDay", alone(whole(0), impl.MaxDay, 5), true}, {"made behind it", alone(whole(0), impl.MaxDay+1, 5), false},
		{"good 0", alone(whole(0), 5, 0), true}, {"good -1", alone(whole(0), 5, -1), false}, {"good MaxDay", alone(whole(0), 5, impl.MaxDay), true}, {"good more", alone(whole(0), 5, impl.MaxDay+1), false},
	} {
		if got := impl.ValidChain(c.list); got != c.want {
			t.Errorf("%s: valid is %t", c.what, got)
		}
	}
}

func TestSameChain(t *testing.T) {
	all := append(validChains(), invalidChains()...)
	for i, list := range all {
		if !impl.SameChain(list, slices.Clone(list)) || !impl.SameChain(slices.Clone(list), list) {
			t.Errorf("%+v is not the same as itself", list)
		}
		for _, other := range all[max(0, i-40):i] {
			if want := slices.Equal(list, other); impl.SameChain(list, other) != want || impl.SameChain(other, list) != want {
				t.Errorf("%+v and %+v: same is not %t", list, other, want)
			}
		}
	}
	for i := range 3 {
		for _, change := range []func(s *Standard){
			func(s *Standard) { s.Name += "x" }, func(s *Standard) { s.From-- }, func(s *Standard) { s.Value.Low.P-- }, func(s *Standard) { s.Value.Low.Q++ }, func(s *Standard) { s.Value.High.P++ }, func(s *Standard) { s.Value.High.Q++ },
			func(s *Standard) { s.Drift.P++ }, func(s *Standard) { s.Drift.Q++ }, func(s *Standard) { s.Made++ }, func(s *Standard) { s.Good++ },
		} {
			if other := changed(exampleChain(), i, change); impl.SameChain(exampleChain(), other) || impl.SameChain(other, exampleChain()) {
				t.Errorf("%+v is another chain", other)
			}
		}
		if shorter := exampleChain()[:i]; impl.SameChain(exampleChain(), shorter) || impl.SameChain(shorter, exampleChain()) {
			t.Errorf("%+v is another chain", shorter)
		}
	}
	if !impl.SameChain(nil, []Standard{}) || !impl.SameChain(make([]Standard, 0, 7), nil) || !impl.SameChain(nil, nil) || impl.SameChain(nil, []Standard{{}}) {
		t.Error("empty chains are the same, and no others")
	}
}

func TestFindStandard(t *testing.T) {
	names := []string{"", "-", "metre", "Metre", "metre ", "metr", "metrea", "etre", "bar", "tape", "x", "\xff", "abcdefghijklm", nameOf(0), nameOf(31)}
	for _, list := range validChains() {
		for i, s := range list {
			got, code := impl.FindStandard(list, s.Name)
			same(t, s.Name, got, code, int64(i), impl.OK)
		}
		for _, name := range names {
			want, wantCode := int64(slices.IndexFunc(list, func(s Standard) bool { return s.Name == name })), int64(impl.OK)
			if want < 0 {
				want, wantCode = 0, impl.ErrNotFound
			}
			got, code := impl.FindStandard(list, name)
			same(t, name, got, code, want, wantCode)
		}
	}
	for _, list := range invalidChains() {
		for _, name := range append(names, list[0].Name) {
			got, code := impl.FindStandard(list, name)
			same(t, list, got, code, 0, impl.ErrInvalid)
		}
	}
}

func TestPathTo(t *testing.T) {
	for _, list := range validChains() {
		for _, i := range indicesOf(list) {
			var want []int64
			wantCode := askCode(list, 0, i)
			if wantCode == impl.OK {
				want = pathIn(list, i)
			}
			got, code := impl.PathTo(list, i)
			sameList(t, []any{list, i}, got, code, want, wantCode)
		}
	}
	checkInvalidChains(t, isEmpty[int64], func(list []Standard, i, k, day int64) ([]int64, int64) { return impl.PathTo(list, i) })
	for i, want := range [][]int64{{0}, {0, 1}, {0, 2}, {0, 1, 3}, {4}, {4, 5}, {0, 1, 3, 6}, {0, 1, 3, 7}, {0, 1, 8}} {
		got, code := impl.PathTo(treeChain(), int64(i))
		sameList(t, i, got, code, want, impl.OK)
	}
}

func TestIsGood(t *testing.T) {
	told := map[bool]int{}
	onDays(func(list []Standard, i, day int64) {
		code := askCode(list, day, i)
		want := code == impl.OK && isGood(list, i, day)
		got, gotCode := impl.IsGood(list, i, day)
		same(t, []any{list, i, day}, got, gotCode, want, code)
		told[got]++
	})
	if told[true] < 1000 || told[false] < 1000 {
		t.Errorf("told %v", told)
	}
	checkInvalidChains(t, isZero[bool], func(list []Standard, i, k, day int64) (bool, int64) { return impl.IsGood(list, i, day) })
	for day, want := range map[int64]bool{0: false, 9: false, 10: true, 11: true, 109: true, 110: true, 111: false, impl.MaxDay: false} {
		got, code := impl.IsGood(exampleChain(), 1, day)
		same(t, day, got, code, want, impl.OK)
	}
}

func TestLastDay(t *testing.T) {
	for _, list := range validChains() {
		for _, i := range indicesOf(list) {
			want, wantCode := int64(0), askCode(list, 0, i)
			if wantCode == impl.OK {
				want = list[i].Made + list[i].Good
			}
			got, code := impl.LastDay(list, i)
			same(t, []any{list, i}, got, code, want, wantCode)
		}
	}
	checkInvalidChains(t, isZero[int64], func(list []Standard, i, k, day int64) (int64, int64) { return impl.LastDay(list, i) })
	for i, want := range []int64{1000, 110, 90} {
		got, code := impl.LastDay(exampleChain(), int64(i))
		same(t, i, got, code, want, impl.OK)
	}
	// The last day can be behind MaxDay, on which the standard is still good.
	late := []Standard{standard("late", -1, between(0, 0), whole(0), impl.MaxDay, impl.MaxDay)}
	last, code := impl.LastDay(late, 0)
	same(t, late, last, code, 2*impl.MaxDay, impl.OK)
	good, code := impl.IsGood(late, 0, impl.MaxDay)
	same(t, late, good, code, true, impl.OK)
}

func TestAllOn(t *testing.T) {
	for _, list := range validChains() {
		for _, day := range daysOf(list) {
			var want []int64
			code := askCode(list, day)
			for i := range list {
				if code == impl.OK && isGood(list, int64(i), day) {
					want = append(want, int64(i))
				}
			}
			got, gotCode := impl.AllOn(list, day)
			sameList(t, []any{list, day}, got, gotCode, want, code)
		}
	}
	checkInvalidChains(t, isEmpty[int64], func(list []Standard, i, k, day int64) ([]int64, int64) { return impl.AllOn(list, day) })
	for day, want := range map[int64][]int64{0: {0}, 9: {0}, 10: {0, 1}, 59: {0, 1}, 60: {0, 1, 2}, 90: {0, 1, 2}, 91: {0, 1}, 110: {0, 1}, 111: {0}, 1000: {0}, 1001: nil, impl.MaxDay: nil} {
		got, code := impl.AllOn(exampleChain(), day)
		sameList(t, day, got, code, want, impl.OK)
	}
}

// expectRecall goes on from what has been calibrated by the standard itself on the day or later.
func expectRecall(list []Standard, i, day int64) []int64 {
	var recalled []int64
	for k, s := range list {
		if s.From == i && s.Made >= day || slices.Contains(recalled, s.From) {
			recalled = append(recalled, int64(k))
		}
	}
	return recalled
}

func TestUsersOf(t *testing.T) {
	for _, list := range validChains() {
		for _, i := range indicesOf(list) {
			var want []int64
			code := askCode(list, 0, i)
			for k := range list {
				if code == impl.OK && int64(k) != i && slices.Contains(pathIn(list, int64(k)), i) {
					want = append(want, int64(k))
				}
			}
			got, gotCode := impl.UsersOf(list, i)
			sameList(t, []any{list, i}, got, gotCode, want, code)
		}
	}
	checkInvalidChains(t, isEmpty[int64], func(list []Standard, i, k, day int64) ([]int64, int64) { return impl.UsersOf(list, i) })
	for i, want := range [][]int64{{1, 2, 3, 6, 7, 8}, {3, 6, 7, 8}, nil, {6, 7}, {5}, nil, nil, nil, nil} {
		got, code := impl.UsersOf(treeChain(), int64(i))
		sameList(t, i, got, code, want, impl.OK)
	}
}

func TestRecallOf(t *testing.T) {
	some := 0
	onDays(func(list []Standard, i, day int64) {
		var want []int64
		code := askCode(list, day, i)
		if code == impl.OK {
			want = expectRecall(list, i, day)
		}
		got, gotCode := impl.RecallOf(list, i, day)
		sameList(t, []any{list, i, day}, got, gotCode, want, code)
		if users, _ := impl.UsersOf(list, i); len(got) > 0 && len(got) < len(users) {
			some++
		}
	})
	if some < 100 {
		t.Errorf("only %d times some, but not all have been recalled", some)
	}
	checkInvalidChains(t, isEmpty[int64], func(list []Standard, i, k, day int64) ([]int64, int64) { return impl.RecallOf(list, i, day) })
	// Only the day of the calibration by the standard itself counts: the tape is not recalled with the metre of the day 11, and is with the bar of the day 60.
	for _, c := range []struct {
		i, day int64
		want   []int64
	}{
		{0, 0, []int64{1, 2}}, {0, 10, []int64{1, 2}}, {0, 11, nil}, {0, 60, nil}, {1, 0, []int64{2}}, {1, 11, []int64{2}}, {1, 60, []int64{2}}, {1, 61, nil}, {1, impl.MaxDay, nil}, {2, 0, nil},
	} {
		got, code := impl.RecallOf(exampleChain(), c.i, c.day)
		sameList(t, c, got, code, c.want, impl.OK)
	}
	for day, want := range map[int64][]int64{0: {1, 2, 3, 6, 7, 8}, 10: {1, 2, 3, 6, 7, 8}, 11: {2}, 30: {2}, 31: nil} {
		got, code := impl.RecallOf(treeChain(), 0, day)
		sameList(t, day, got, code, want, impl.OK)
	}
}

func expectDue(list []Standard, first, last int64) []int64 {
	var due []int64
	for i, s := range list {
		if s.Made+s.Good >= first && s.Made+s.Good <= last {
			due = append(due, int64(i))
		}
	}
	sort.Slice(due, func(n, m int) bool {
		one, other := list[due[n]], list[due[m]]
		if one.Made+one.Good != other.Made+other.Good {
			return one.Made+one.Good < other.Made+other.Good
		}
		return due[n] < due[m]
	})
	return due
}

func TestDueBetween(t *testing.T) {
	for _, list := range validChains() {
		days := daysOf(list)
		for n, first := range days {
			for m, last := range days {
				if len(days) > 40 && (n+m)%9 != 0 {
					continue
				}
				var want []int64
				code := max(askCode(list, first), askCode(list, last))
				if code == impl.OK && first > last {
					code = impl.ErrRange
				}
				if code == impl.OK {
					want = expectDue(list, first, last)
				}
				got, gotCode := impl.DueBetween(list, first, last)
				sameList(t, []any{list, first, last}, got, gotCode, want, code)
			}
		}
	}
	checkInvalidChains(t, isEmpty[int64], func(list []Standard, i, k, day int64) ([]int64, int64) { return impl.DueBetween(list, day, i) })
	// Their last days are 7, 3, 7, 5, 3 and 7.
	var list []Standard
	for i, last := range []int64{7, 3, 7, 5, 3, 7} {
		list = append(list, standard(nameOf(i), -1, between(0, 0), whole(0), int64(i%3), last-int64(i%3)))
	}
	for _, c := range []struct {
		first, last int64
		want        []int64
		code        int64
	}{
		{0, impl.MaxDay, []int64{1, 4, 3, 0, 2, 5}, impl.OK}, {3, 7, []int64{1, 4, 3, 0, 2, 5}, impl.OK}, {4, 6, []int64{3}, impl.OK}, {3, 3, []int64{1, 4}, impl.OK}, {7, 7, []int64{0, 2, 5}, impl.OK}, {4, 4, nil, impl.OK}, {8, impl.MaxDay, nil, impl.OK},
		{7, 3, nil, impl.ErrRange}, {4, 3, nil, impl.ErrRange}, {1, 0, nil, impl.ErrRange}, {-1, 7, nil, impl.ErrRange}, {3, impl.MaxDay + 1, nil, impl.ErrRange}, {-2, -1, nil, impl.ErrRange}, {math.MinInt64, math.MaxInt64, nil, impl.ErrRange}, {math.MaxInt64, math.MinInt64, nil, impl.ErrRange},
	} {
		got, code := impl.DueBetween(list, c.first, c.last)
		sameList(t, c, got, code, c.want, c.code)
	}
	// What is good until behind MaxDay is not due, and what is good until MaxDay is.
	late := []Standard{standard("a", -1, between(0, 0), whole(0), 1, impl.MaxDay), standard("b", -1, between(0, 0), whole(0), 0, impl.MaxDay), standard("c", -1, between(0, 0), whole(0), impl.MaxDay, 0)}
	due, code := impl.DueBetween(late, 0, impl.MaxDay)
	sameList(t, late, due, code, []int64{1, 2}, impl.OK)
}
