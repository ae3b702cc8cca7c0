package tests

import (
	"math"
	"math/big"
	"regexp"
	"strings"
	"testing"

	"loop.example/g01254/impl"
)

func TestWrapAngle(t *testing.T) {
	const most = 1000000000000
	var list []int64
	for _, n := range []int64{0, 1, 5, half, circle, 2 * circle, 77 * circle, 771604 * circle, most, 123456789, 987654321098} {
		for by := int64(-2); by <= 2; by++ {
			list = append(list, n+by, by-n)
		}
	}
	list = append(list, math.MaxInt64, math.MinInt64, math.MinInt64+1, 1<<62)
	for _, n := range list {
		want, code := wrapBig(big.NewInt(n)), int64(impl.OK)
		if n > most || n < -most {
			want, code = 0, impl.ErrRange
		}
		got, gotCode := impl.WrapAngle(n)
		same(t, n, got, gotCode, want, code)
	}
}

func TestWrapAngleByHand(t *testing.T) {
	for _, c := range [][3]int64{
		{0, 0, impl.OK}, {1295999, 1295999, impl.OK}, {1296000, 0, impl.OK}, {-1, 1295999, impl.OK}, {-1296000, 0, impl.OK},
		{-1296001, 1295999, impl.OK}, {2592001, 1, impl.OK}, {1000000000000, 1216000, impl.OK}, {-1000000000000, 80000, impl.OK},
		{1000000000001, 0, impl.ErrRange}, {-1000000000001, 0, impl.ErrRange}, {math.MaxInt64, 0, impl.ErrRange}, {math.MinInt64, 0, impl.ErrRange},
	} {
		got, code := impl.WrapAngle(c[0])
		same(t, c[0], got, code, c[1], c[2])
	}
}

func TestTurnFrom(t *testing.T) {
	list := append(angles(), noAngles()...)
	for _, a := range list {
		for _, b := range list {
			want, code := int64(0), int64(impl.ErrInvalid)
			if isAngle(a) && isAngle(b) {
				want, code = expectTurnFrom(a, b), impl.OK
			}
			got, gotCode := impl.TurnFrom(a, b)
			same(t, []int64{a, b}, got, gotCode, want, code)
		}
	}
}

func TestTurnFromByHand(t *testing.T) {
	for _, c := range [][4]int64{
		{10, 1295990, -20, impl.OK}, {1295990, 10, 20, impl.OK}, {0, 0, 0, impl.OK}, {1295999, 0, 1, impl.OK}, {0, 1295999, -1, impl.OK},
		// Half a circle is turned forward, from either side; one second more is turned back.
		{0, 648000, 648000, impl.OK}, {648000, 0, 648000, impl.OK}, {1, 648001, 648000, impl.OK}, {1295999, 647999, 648000, impl.OK},
		{0, 648001, -647999, impl.OK}, {648001, 0, 647999, impl.OK}, {0, 647999, 647999, impl.OK}, {647999, 0, -647999, impl.OK},
		{-1, 0, 0, impl.ErrInvalid}, {0, -1, 0, impl.ErrInvalid}, {1296000, 0, 0, impl.ErrInvalid}, {0, 1296000, 0, impl.ErrInvalid},
		{math.MinInt64, math.MaxInt64, 0, impl.ErrInvalid}, {math.MinInt64, math.MinInt64, 0, impl.ErrInvalid},
	} {
		got, code := impl.TurnFrom(c[0], c[1])
		same(t, c[:2], got, code, c[2], c[3])
	}
}

func TestAngleText(t *testing.T) {
	for _, c := range []struct {
		angle int64
		want  string
	}{
		{0, "0:00:00"}, {1, "0:00:01"}, {9, "0:00:09"}, {10, "0:00:10"}, {59, "0:00:59"}, {60, "0:01:00"}, {599, "0:09:59"}, {600, "0:10:00"}, {3599, "0:59:59"},
		{3600, "1:00:00"}, {3661, "1:01:01"}, {36000, "10:00:00"}, {359999, "99:59:59"}, {360000, "100:00:00"}, {162000, "45:00:00"}, {1295999, "359:59:59"},
	} {
		if got := impl.AngleText(c.angle); got != c.want {
			t.Errorf("%d: got %q, want %q", c.angle, got, c.want)
		}
	}
	for _, n := range noAngles() {
		if got := impl.AngleText(n); got != "" {
			t.Errorf("%d: got %q", n, got)
		}
	}
}

var anglePattern = regexp.MustCompile(`^(0|[1-9][0-9]?|[12][0-9][0-9]|3[0-5][0-9]):[0-5][0-9]:[0-5][0-9]$`)

// TestAnglesAreReadFromTheirTexts reads the text of every angle.
func TestAnglesAreReadFromTheirTexts(t *testing.T) {
	for angle := range int64(circle) {
		text := impl.AngleText(angle)
		if angle%997 == 0 && !anglePattern.MatchString(text) {
			t.Errorf("%d: got %q", angle, text)
		}
		if got, code := impl.ReadAngle(text); got != angle || code != impl.OK {
			t.Fatalf("%q: got %d and %s", text, got, impl.CodeName(code))
		}
	}
}

func TestReadAngleOfNoText(t *testing.T) {
	for _, text := range []string{
		"", " ", ":", "::", ":::", "0", "00", "3661", "1:01", "0:0", ":01:01", "1::01", "1:01:", "1:01:01:", ":1:01:01", "1:01:01:01", "0:0:00:00", "0:00:00:00",
		"0:0:0", "00:00:00", "01:01:01", "001:01:01", "1:1:01", "1:01:1", "1:001:01", "1:01:001", "1:60:00", "1:00:60", "1:99:00", "0:59:60", "0:00:100",
		"360:00:00", "359:59:60", "359:60:00", "400:00:00", "1000:00:00", "-1:00:00", "-0:00:00", "+1:01:01", "1:+1:01", "1:01:+1", "1:-1:01", "1:01:-1", "2:-1:00", "0:00:-0", "0:-0:00",
		" 1:01:01", "1:01:01 ", "1: 1:01", "1:01: 1", "1:01:01\n", "1:01:01\x00", "1.01.01", "1;01;01", "1:01.01", "1°01'01\"", "1:01:0x", "0x1:01:01", "1e1:01:01", "1_0:01:01",
		"１:01:01", "1：01：01", "1:01:0\xff", "a:bc:de",
		// These overflow, and are 0 or 1 then.
		"1152921504606846976:00:00", "5124095576030431:00:16", "1152921504606846976:00:01", "18446744073709551616:00:00", "0:307445734561825860:16", "0:00:18446744073709551616",
		"9223372036854775807:00:00", "-9223372036854775808:00:00", "0:9223372036854775807:00", "0:00:9223372036854775807", "0:00:-9223372036854775808",
		strings.Repeat("9", 1000000), strings.Repeat(":", 1000000), strings.Repeat("0:", 500000) + "0", strings.Repeat("0", 1000000) + ":00:00", "0:00:" + strings.Repeat("0", 1000000),
	} {
		got, code := impl.ReadAngle(text)
		same(t, text[:min(len(text), 100)], got, code, 0, impl.ErrSyntax)
	}
}

// TestReadAngleOfEveryShortText compares what is read with a pattern.
func TestReadAngleOfEveryShortText(t *testing.T) {
	read := 0
	check := func(text string) {
		angle, code := impl.ReadAngle(text)
		if isText := anglePattern.MatchString(text); isText != (code == impl.OK) || code != impl.OK && code != impl.ErrSyntax {
			t.Errorf("%q: got %d and %s", text, angle, impl.CodeName(code))
		}
		if code != impl.OK {
			same(t, text, angle, code, 0, impl.ErrSyntax)
			return
		}
		if read++; impl.AngleText(angle) != text {
			t.Errorf("%q: got %d", text, angle)
		}
	}
	everyText("0169:-", 7, check)
	everyText("036:", 9, check)
	if read < 500 {
		t.Errorf("only %d were read", read)
	}
}
