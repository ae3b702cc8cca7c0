package tests

import (
	"strings"
	"testing"

	"loop.example/g01254/impl"
)

func TestScaleText(t *testing.T) {
	for _, c := range []struct {
		s    Scale
		want string
	}{
		{even(whole(1), 2), "1 0 0"},
		{scale(frac(5, 2), frac(-1, 8), whole(0), frac(1, 3)), "5/2 -1/8 0 1/3"},
		{scale(whole(1000), whole(250), whole(-250)), "1000 250 -250"},
		{even(frac(1, most), 60), "1/1000000000" + strings.Repeat(" 0", 60)},
	} {
		if got := impl.ScaleText(c.s); got != c.want {
			t.Errorf("%+v: got %q, want %q", c.s, got, c.want)
		}
	}
	for _, s := range invalidScales() {
		if got := impl.ScaleText(s); got != "" {
			t.Errorf("%+v: got %q", s, got)
		}
	}
}

func TestScalesAreReadFromTheirTexts(t *testing.T) {
	for _, s := range validScales() {
		got, code := impl.ReadScale(impl.ScaleText(s))
		sameScale(t, s, got, code, s, impl.OK)
	}
}

func TestReadScaleOfNoText(t *testing.T) {
	for _, text := range []string{
		"", " ", "1", "1 ", "1 0", "1 0 ", " 1 0 0", "1 0 0 ", "1  0 0", "1 0  0", "1 0 0\n", "1\t0 0", "1,0,0", "1 0 0 x", "x 0 0",
		"2/4 0 0", "1 0 0/1", "1 -0 0", "+1 0 0", "1 0 00", "01 0 0", "1 0 2/8", "1 1/4 1/0", "1 0 1.5",
		"0 0 0", "-1 0 0", "1001 0 0", "1 0 1/3", "1 -1/3 0", "1 0 1/1000000000", "999999999/1000000000 0 0 0 0", "1000000001 0 0", "9223372036854775808 0 0",
		"1" + strings.Repeat(" 0", 61), "1" + strings.Repeat(" 0", 62), "1" + strings.Repeat(" 0", 500000), strings.Repeat(" ", 1000000), strings.Repeat("1", 1000000),
		"1" + strings.Repeat(" 0", 60) + " ", "1" + strings.Repeat(" 0", 60) + "\n", "1" + strings.Repeat(" 0", 59) + " 1/3", "1 0\xff0", "1 0 0\x00", "1 0 0 0 0 0 0 0 0 0 0 0 0 0 0 0 0 0 0 0 0 ",
	} {
		got, code := impl.ReadScale(text)
		sameScale(t, text[:min(len(text), 200)], got, code, Scale{}, impl.ErrSyntax)
	}
}

func expectReadScale(text string) (Scale, int64) {
	var list []Frac
	for _, word := range strings.Split(text, " ") {
		a, code := expectFrac(word)
		if code != impl.OK {
			return Scale{}, impl.ErrSyntax
		}
		list = append(list, a)
	}
	s := scale(list[0], list[1:]...)
	if len(list) < 3 || len(list) > 61 || s.Unit.P <= 0 || s.Unit.P > 1000*s.Unit.Q {
		return Scale{}, impl.ErrSyntax
	}
	for _, e := range s.Errors {
		if 4*e.P*s.Unit.Q > s.Unit.P*e.Q || -4*e.P*s.Unit.Q > s.Unit.P*e.Q {
			return Scale{}, impl.ErrSyntax
		}
	}
	return s, impl.OK
}

// TestReadScaleOfEveryShortText has no numbers that are so great that a mark could not be valid.
func TestReadScaleOfEveryShortText(t *testing.T) {
	read := 0
	everyText("014 /-", 7, func(text string) {
		got, code := impl.ReadScale(text)
		want, wantCode := expectReadScale(text)
		sameScale(t, text, got, code, want, wantCode)
		if code == impl.OK {
			read++
		}
	})
	if read < 100 {
		t.Errorf("only %d were read", read)
	}
}
