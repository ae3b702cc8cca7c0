package tests

import (
	"math/rand"
	"regexp"
	"slices"
	"strconv"
	"strings"
	"testing"

	"loop.example/g01254/impl"
)

func TestReportText(t *testing.T) {
	far := Report{Shot: shot(9, whole(-200), whole(least)), First: frac(-1, most), Second: whole(most), Length: frac(most, most-1), Open: span(whole(-7), whole(-7))}
	for _, c := range []struct {
		r    Report
		want string
	}{
		{exampleReport(), "0 0 2 2 57/10 37/10 18/5..19/5"}, {far, "9 -200 -1000000000 -1/1000000000 1000000000 1000000000/999999999 -7..-7"}, // no shot of a bench, but a text
		{Report{Shot: shot(3, frac(-1, 2), whole(0)), First: whole(0), Second: whole(0), Length: whole(0), Open: between(0, 0)}, "3 -1/2 0 0 0 0 0..0"},
	} {
		if got := impl.ReportText(c.r); got != c.want {
			t.Errorf("%+v: got %q, want %q", c.r, got, c.want)
		}
		got, code := impl.ReadReport(c.want)
		same(t, c.want, got, code, c.r, impl.OK)
	}
}

// TestReportsAreReadFromTheirTexts has reports that are accepted, and others whose parts are changed, one at a time.
func TestReportsAreReadFromTheirTexts(t *testing.T) {
	random := rand.New(rand.NewSource(71))
	read, none := 0, 0
	for _, b := range validBenches() {
		for _, r := range takenOn(random, b, 2) {
			for _, x := range append(changedReports(r), r, Report{}, Report{Shot: r.Shot}) {
				isText := x.Shot.Thing >= 0 && x.Shot.Thing < 10 && impl.ValidSpan(x.Open)
				for _, a := range parts(&x) {
					isText = isText && impl.ValidFrac(*a)
				}
				text := impl.ReportText(x)
				if isText != (text != "") {
					t.Errorf("%+v: got %q", x, text)
				}
				if isText {
					read++
					got, code := impl.ReadReport(text)
					same(t, text, got, code, x, impl.OK)
				} else {
					none++
				}
			}
		}
	}
	if read < 300 || none < 3000 {
		t.Errorf("%d have texts, and %d not", read, none)
	}
}

func TestReadReportOfNoText(t *testing.T) {
	for _, text := range []string{
		"", " ", "x", "\n", "0", "0 0 2 2 57/10 37/10", "0 0 2 2 57/10 37/10 ", "0 0 2 2 57/10 37/10 18/5", "0 0 2 2 57/10 37/10 18/5..", "0 0 2 2 57/10 37/10 ..19/5", "0 0 2 2 57/10 37/10 18/5..19/5 ", " 0 0 2 2 57/10 37/10 18/5..19/5", "0 0 2 2 57/10 37/10 18/5..19/5\n", "0 0 2 2 57/10 37/10 18/5..19/5 0", "0 0 2 2 57/10 37/10 18/5 19/5", "0 0 2 2 57/10 37/10 18/5..19/5\x00", "0 2 2 57/10 37/10 18/5..19/5", "0 0 0 2 2 57/10 37/10 18/5..19/5",
		"0  0 2 2 57/10 37/10 18/5..19/5", "0 0 2 2  57/10 37/10 18/5..19/5", "0 0 2 2 57/10 37/10  18/5..19/5", "0\t0 2 2 57/10 37/10 18/5..19/5", "0 0 2 2 57/10\n37/10 18/5..19/5", "0      ", "      ", "0     0..0 ", "0 0 0 0 0 0 ", "0 0 0 0 0  0..0", "0  0 0 0 0 0..0", " 0 0 0 0 0 0..0",
		"-1 0 2 2 57/10 37/10 18/5..19/5", "10 0 2 2 57/10 37/10 18/5..19/5", "+0 0 2 2 57/10 37/10 18/5..19/5", "-0 0 2 2 57/10 37/10 18/5..19/5", "00 0 2 2 57/10 37/10 18/5..19/5", "01 0 2 2 57/10 37/10 18/5..19/5", "+1 0 2 2 57/10 37/10 18/5..19/5", "a 0 2 2 57/10 37/10 18/5..19/5", "0/1 0 2 2 57/10 37/10 18/5..19/5", "1.0 0 2 2 57/10 37/10 18/5..19/5", "0x1 0 2 2 57/10 37/10 18/5..19/5", "4294967296 0 2 2 57/10 37/10 18/5..19/5", "18446744073709551616 0 2 2 57/10 37/10 18/5..19/5", "9223372036854775807 0 2 2 57/10 37/10 18/5..19/5", "-9223372036854775808 0 2 2 57/10 37/10 18/5..19/5", "1_0 0 2 2 57/10 37/10 18/5..19/5",
		"0 +0 2 2 57/10 37/10 18/5..19/5", "0 -0 2 2 57/10 37/10 18/5..19/5", "0 00 2 2 57/10 37/10 18/5..19/5", "0 0/1 2 2 57/10 37/10 18/5..19/5", "0 0 4/2 2 57/10 37/10 18/5..19/5", "0 0 2/1 2 57/10 37/10 18/5..19/5", "0 0 2 +2 57/10 37/10 18/5..19/5", "0 0 2 02 57/10 37/10 18/5..19/5", "0 0 2 2 114/20 37/10 18/5..19/5", "0 0 2 2 57/-10 37/10 18/5..19/5", "0 0 2 2 57/10 74/20 18/5..19/5", "0 0 2 2 57/10 1000000001 18/5..19/5", "0 0 2 2 57/10 1/1000000001 18/5..19/5", "0 0 2 2 57/10 5.7 18/5..19/5", "0 0 2 2 57/10 x 18/5..19/5",
		"0 0 2 2 57/10 37/10 19/5..18/5", "0 0 2 2 57/10 37/10 36/10..19/5", "0 0 2 2 57/10 37/10 18/5..38/10", "0 0 2 2 57/10 37/10 18/5...19/5", "0 0 2 2 57/10 37/10 18/5.19/5", "0 0 2 2 57/10 37/10 18/5-19/5", "0 0 2 2 57/10 37/10 -0..19/5", "0 0 2 2 57/10 37/10 18/5..+19/5", "0 0 2 2 57/10 37/10 18/5..19/5..20", "0 0 2 2 57/10 37/10 ..",
		strings.Repeat("0 ", 500000), strings.Repeat(" ", 1000000), strings.Repeat("0", 1000000), strings.Repeat("9", 1000000) + " 0 2 2 57/10 37/10 18/5..19/5", "0 0 2 2 57/10 37/10 18/5..19/5" + strings.Repeat("0", 1000000), "0 0 2 2 57/10 37/10 " + strings.Repeat("..", 400000),
	} {
		got, code := impl.ReadReport(text)
		same(t, text[:min(len(text), 200)], got, code, Report{}, impl.ErrSyntax)
	}
}

// expectReadReport reads a text in another way.
func expectReadReport(text string) (Report, int64) {
	words := strings.Split(text, " ")
	if len(words) != 7 || len(words[0]) != 1 || !strings.Contains("0123456789", words[0]) {
		return Report{}, impl.ErrSyntax
	}
	ends := strings.Split(words[6], "..")
	if len(ends) != 2 {
		return Report{}, impl.ErrSyntax
	}
	r := Report{Shot: Shot{Thing: int64(words[0][0] - '0')}}
	for i, word := range append(words[1:6:6], ends...) {
		a, code := expectFrac(word)
		if code != impl.OK || !impl.ValidFrac(a) {
			return Report{}, impl.ErrSyntax
		}
		*parts(&r)[i] = a
	}
	if rat(r.Open.Low).Cmp(rat(r.Open.High)) > 0 {
		return Report{}, impl.ErrSyntax
	}
	return r, impl.OK
}

func TestReadReportOfNearlyEveryText(t *testing.T) {
	told := map[int64]int{}
	for _, text := range []string{"0 0 2 2 57/10 37/10 18/5..19/5", "9 -100 -1/2 -20/7 0 1000000000 -7/2..999999999/1000000000", "1 1 1 1 1 1 1..1"} {
		nearly(text, []string{"0", "1", "9", "-", "+", "/", ".", " ", "\n", "a", "\t", "\x00", "\xff"}, func(text string) {
			got, code := impl.ReadReport(text)
			want, wantCode := expectReadReport(text)
			same(t, text, got, code, want, wantCode)
			told[code]++
		})
	}
	enough(t, told, 300, impl.OK, impl.ErrSyntax)
}

func TestBenchText(t *testing.T) {
	for _, c := range []struct {
		b    Bench
		want string
	}{
		{bench(even(whole(1), 3), Vernier{Parts: 10}, whole(0)), "1 0 0 0\n10 on 0\n"},
		{bench(scale(whole(1), whole(0), frac(-1, 8), frac(1, 4)), Vernier{Parts: 40, Back: true}, frac(1, 1000), thing("rod", frac(37, 10), whole(0)), thing("abcdefghijkl", whole(100000), frac(1, 2000))), "1 0 -1/8 1/4\n40 back 1/1000\nrod 37/10 0\nabcdefghijkl 100000 1/2000\n"},
		{bench(even(frac(1, 2), 2), Vernier{Parts: 2}, frac(1, most), thing("on", frac(1, most), frac(1, most)), thing("back", whole(1), whole(0))), "1/2 0 0\n2 on 1/1000000000\non 1/1000000000 1/1000000000\nback 1 0\n"},
	} {
		if got := impl.BenchText(c.b); got != c.want {
			t.Errorf("%+v: got %q, want %q", c.b, got, c.want)
		}
		got, code := impl.ReadBench(c.want)
		sameBench(t, c.want, got, code, c.b, impl.OK)
	}
	for _, b := range invalidBenches() {
		if got := impl.BenchText(b); got != "" {
			t.Errorf("%+v: got %q", b, got)
		}
	}
}

func TestBenchesAreReadFromTheirTexts(t *testing.T) {
	for _, b := range append(validBenches(), withThings(things(10)...)) {
		text := impl.BenchText(b)
		got, code := impl.ReadBench(text)
		sameBench(t, text, got, code, b, impl.OK)
		if !impl.SameBench(got, b) || strings.Count(text, "\n") != 2+len(b.Things) || !strings.HasPrefix(text, impl.ScaleText(b.Scale)+"\n") {
			t.Errorf("%+v has the text %q, of %+v", b, text, got)
		}
	}
}

func TestReadBenchOfNoText(t *testing.T) {
	const head = "1 0 0\n10 on 0\n"
	const rod = "rod 37/10 0\n"
	ten := impl.BenchText(withThings(things(10)...))
	texts := []string{
		"", "\n", "\n\n", " ", "1 0 0", "1 0 0\n", "1 0 0\n\n", "1 0 0\n10 on 0", "1 0 0\n10 on", "1 0 0\n10 on\n", "1 0 0 10 on 0\n", "10 on 0\n1 0 0\n", "\n" + head, head + "\n", " " + head, head + " ", head + "x", head + "\x00", "1 0 0\r\n10 on 0\r\n", "1 0 0 \n10 on 0\n", "1 0 0\n10 on 0 \n", "1 0 0\n 10 on 0\n", "1 0 0\n\n10 on 0\n", "10 on 0\n", head + head,
		"1  0 0\n10 on 0\n", "1 0\n10 on 0\n", "1\n10 on 0\n", "0 0 0\n10 on 0\n", "1 0 1/3\n10 on 0\n", "1 0 2/8\n10 on 0\n", "+1 0 0\n10 on 0\n", "01 0 0\n10 on 0\n", "1 -0 0\n10 on 0\n", "1001 0 0\n10 on 0\n", "1" + strings.Repeat(" 0", 61) + "\n10 on 0\n", "x 0 0\n10 on 0\n",
		"1 0 0\n10  on 0\n", "1 0 0\n10 on  0\n", "1 0 0\n10\ton 0\n", "1 0 0\n10 on 0 0\n", "1 0 0\n10 0\n", "1 0 0\non 0\n", "1 0 0\n10  0\n", "1 0 0\n1 on 0\n", "1 0 0\n41 on 0\n", "1 0 0\n0 on 0\n", "1 0 0\n-10 on 0\n", "1 0 0\n+10 on 0\n", "1 0 0\n010 on 0\n", "1 0 0\n-0 on 0\n", "1 0 0\n10/1 on 0\n", "1 0 0\n20/2 on 0\n", "1 0 0\n1_0 on 0\n", "1 0 0\n0xa on 0\n", "1 0 0\n4294967306 on 0\n", "1 0 0\n18446744073709551626 on 0\n", "1 0 0\nten on 0\n",
		"1 0 0\n10 On 0\n", "1 0 0\n10 ON 0\n", "1 0 0\n10 off 0\n", "1 0 0\n10 o 0\n", "1 0 0\n10 onn 0\n", "1 0 0\n10 Back 0\n", "1 0 0\n10 bac 0\n", "1 0 0\n10 backs 0\n", "1 0 0\n10 true 0\n", "1 0 0\n10 - 0\n", "1 0 0\n10 on\x00 0\n", "1 0 0\n10 forward 0\n", "1 0 0\n10 onback 0\n", "1 0 0\n10 back on 0\n",
		"1 0 0\n10 on -0\n", "1 0 0\n10 on +0\n", "1 0 0\n10 on 00\n", "1 0 0\n10 on 0/1\n", "1 0 0\n10 on 2/4000\n", "1 0 0\n10 on 1/999\n", "1 0 0\n10 on -1/2000\n", "1 0 0\n10 on 1\n", "1 0 0\n10 on 0.001\n", "1 0 0\n10 on x\n", "1 0 0\n10 on 1/0\n",
		head + "rod 37/10 0", head + "rod 37/10 0\n\n", head + "rod 37/10\n", head + "rod\n", head + "37/10 0\n", head + "rod 37/10 0 0\n", head + "rod  37/10 0\n", head + "rod 37/10  0\n", head + " rod 37/10 0\n", head + "rod 37/10 0 \n", head + "rod\t37/10 0\n", head + "\n" + rod, head + rod + "\n" + "pin 1 0\n", head + " 37/10 0\n", head + "Rod 37/10 0\n", head + "rod1 37/10 0\n", head + "abcdefghijklm 37/10 0\n", head + "röd 37/10 0\n", head + "- 37/10 0\n", head + "\xff 37/10 0\n",
		head + "rod 0 0\n", head + "rod -1 0\n", head + "rod 100001 0\n", head + "rod 74/20 0\n", head + "rod +1 0\n", head + "rod 01 0\n", head + "rod 1/1 0\n", head + "rod 3.7 0\n", head + "rod 1000000001 0\n", head + "rod 1/1000000001 0\n", head + "rod x 0\n", head + "rod 1 -0\n", head + "rod 1 +0\n", head + "rod 1 00\n", head + "rod 1 1/999\n", head + "rod 1 -1/2000\n", head + "rod 1 2/4000\n", head + "rod 1 x\n", head + "rod 1 on\n",
		head + rod + rod, head + rod + "pin 1 0\n" + "rod 2 0\n", head + rod + "pin 1 0", ten + "x 1 0\n", ten + "\n", ten + "x", ten[:len(ten)-1], ten + "a", head + strings.Repeat(rod, 80000), head + strings.Repeat("\n", 1000000), strings.Repeat("\n", 1000000), strings.Repeat("a", 1000000), strings.Repeat(" ", 1000000), head + "rod" + strings.Repeat(" 1", 500000) + "\n", "1 0 0\n10" + strings.Repeat(" on", 300000) + " 0\n", head + strings.Repeat("a", 1000000) + " 1 0\n", "1 0 0\n" + strings.Repeat("9", 1000000) + " on 0\n",
	}
	for _, text := range texts {
		got, code := impl.ReadBench(text)
		sameBench(t, text[:min(len(text), 200)], got, code, Bench{}, impl.ErrSyntax)
	}
	got, code := impl.ReadBench(head + rod)
	sameBench(t, "the text of which they are nearly all", got, code, bench(even(whole(1), 2), Vernier{Parts: 10}, whole(0), thing("rod", frac(37, 10), whole(0))), impl.OK)
}

var (
	vernierPattern = regexp.MustCompile(`^([1-9][0-9]?) (on|back) (\S+)$`)
	thingPattern   = regexp.MustCompile(`^([a-z]{1,12}) (\S+) (\S+)$`)
)

// expectReadBench reads a text in another way.
func expectReadBench(text string) (Bench, int64) {
	lines := strings.Split(text, "\n")
	if len(lines) < 3 || lines[len(lines)-1] != "" {
		return Bench{}, impl.ErrSyntax
	}
	s, code := expectReadScale(lines[0])
	words := vernierPattern.FindStringSubmatch(lines[1])
	if code != impl.OK || words == nil {
		return Bench{}, impl.ErrSyntax
	}
	parts, _ := strconv.ParseInt(words[1], 10, 64)
	grows, code := expectFrac(words[3])
	b := bench(s, Vernier{Parts: parts, Back: words[2] == "back"}, grows)
	for _, line := range lines[2 : len(lines)-1] {
		words := thingPattern.FindStringSubmatch(line)
		if words == nil {
			return Bench{}, impl.ErrSyntax
		}
		length, one := expectFrac(words[2])
		growth, two := expectFrac(words[3])
		code += one + two
		b.Things = append(b.Things, thing(words[1], length, growth))
	}
	if code != impl.OK || !isBench(b) {
		return Bench{}, impl.ErrSyntax
	}
	return b, impl.OK
}

func TestReadBenchOfNearlyEveryText(t *testing.T) {
	told := map[int64]int{}
	check := func(text string) {
		got, code := impl.ReadBench(text)
		want, wantCode := expectReadBench(text)
		sameBench(t, text, got, code, want, wantCode)
		told[code]++
	}
	for _, text := range []string{
		"1 0 0\n10 on 0\n", "1 0 1/8 -1/4\n40 back 1/1000\nrod 37/10 0\npin 100000 1/2000\n", "1/2 0 0\n2 on 1/4000\na 1 0\nb 1 0\nab 1 1/1001\n", impl.BenchText(withThings(things(10)...)),
	} {
		nearly(text, []string{"0", "1", "4", "9", "-", "+", "/", ".", " ", "\n", "a", "b", "A", "{", "`", "\r", "\x00", "\xff"}, check)
	}
	random := rand.New(rand.NewSource(72))
	numbers := []string{"0", "1", "37/10", "1/1000", "1/2000", "1/999", "100000", "100001", "-1", "2/4", "+1", "-0"}
	for range 10000 {
		lines := []string{"1 0 0", strings.Join([]string{[]string{"2", "10", "40", "41", "1", "02"}[random.Intn(6)%(1+random.Intn(6))], []string{"on", "back", "off"}[random.Intn(9)%(2+random.Intn(2))], numbers[3*random.Intn(2)+random.Intn(2)]}, " ")}
		for range random.Intn(12) % (1 + random.Intn(12)) {
			line := []string{[]string{"a", "b", "c", "d", "e", "rod", "pin", "Rod"}[random.Intn(7+random.Intn(2))], numbers[1+random.Intn(4)], numbers[3*random.Intn(2)]}
			if random.Intn(10) == 0 {
				line[1+random.Intn(2)] = numbers[random.Intn(len(numbers))]
			}
			lines = append(lines, strings.Join(line, " "))
		}
		check(strings.Join(slices.Concat(lines, []string{""}), "\n"))
	}
	enough(t, told, 1000, impl.OK, impl.ErrSyntax)
}
