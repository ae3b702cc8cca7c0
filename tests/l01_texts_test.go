package tests

import (
	"math/big"
	"regexp"
	"strconv"
	"strings"
	"testing"

	"loop.example/g01254/impl"
)

func TestFracText(t *testing.T) {
	for _, c := range []struct {
		a    Frac
		want string
	}{
		{whole(0), "0"}, {whole(7), "7"}, {whole(-7), "-7"}, {frac(-3, 2), "-3/2"}, {frac(1, 10), "1/10"},
		{whole(most), "1000000000"}, {whole(least), "-1000000000"}, {frac(-1, most), "-1/1000000000"}, {frac(most-1, most), "999999999/1000000000"},
	} {
		if got := impl.FracText(c.a); got != c.want {
			t.Errorf("%+v: got %q, want %q", c.a, got, c.want)
		}
	}
	for _, a := range invalidFracs() {
		if got := impl.FracText(a); got != "" {
			t.Errorf("%+v: got %q", a, got)
		}
	}
}

func TestFracsAreReadFromTheirTexts(t *testing.T) {
	for _, a := range validFracs() {
		got, code := impl.ReadFrac(impl.FracText(a))
		same(t, a, got, code, a, impl.OK)
	}
}

func TestReadFracOfNoText(t *testing.T) {
	for _, text := range []string{
		"", " ", "-", "/", "1/", "/2", "-/2", "1/-2", "-1/-2", "+1", "+1/2", "1/+2", "-0", "00", "01", "-01", "0/1", "1/1", "-7/1", "0/2", "1/0", "0/0",
		"2/4", "-2/4", "6/3", "1/02", "01/2", "1/2/3", "1//2", " 1", "1 ", "1\n", "1 /2", "1/ 2", "1_000", "0x1", "1e3", "1.5", "½", "１", "1/2\x00", "--1",
		"1000000001", "-1000000001", "1/1000000001", "1000000001/1000000000", "1000000000/1000000000",
		"9223372036854775807", "-9223372036854775808", "9223372036854775808", "1/9223372036854775807", "1/18446744073709551617", "18446744073709551617",
		strings.Repeat("9", 100000), strings.Repeat("0", 100000) + "1", strings.Repeat("/", 1000), "\xff",
	} {
		got, code := impl.ReadFrac(text)
		same(t, text, got, code, Frac{}, impl.ErrSyntax)
	}
}

var fracPattern = regexp.MustCompile(`^(0|-?[1-9][0-9]*(/([2-9]|[1-9][0-9]+))?)$`)

// expectFrac reads a short text in another way.
func expectFrac(text string) (Frac, int64) {
	if !fracPattern.MatchString(text) {
		return Frac{}, impl.ErrSyntax
	}
	r, ok := new(big.Rat).SetString(text)
	_, under, parted := strings.Cut(text, "/")
	if !parted {
		under = "1"
	}
	if q, _ := strconv.ParseInt(under, 10, 64); !ok || r.Denom().Int64() != q {
		return Frac{}, impl.ErrSyntax
	}
	return Frac{P: r.Num().Int64(), Q: r.Denom().Int64()}, impl.OK
}

// everyText calls check with each text of at most so many of the letters.
func everyText(letters string, length int, check func(text string)) {
	texts := []string{""}
	for range length + 1 {
		var longer []string
		for _, text := range texts {
			check(text)
			for _, letter := range letters {
				longer = append(longer, text+string(letter))
			}
		}
		texts = longer
	}
}

func TestReadFracOfEveryShortText(t *testing.T) {
	read := 0
	everyText("0126/-+ .", 5, func(text string) {
		got, code := impl.ReadFrac(text)
		want, wantCode := expectFrac(text)
		same(t, text, got, code, want, wantCode)
		if code == impl.OK {
			read++
		}
	})
	if read < 500 {
		t.Errorf("only %d were read", read)
	}
}

func TestSpanText(t *testing.T) {
	for _, c := range []struct {
		s    Span
		want string
	}{
		{span(whole(0), whole(0)), "0..0"}, {span(frac(-1, 6), whole(2)), "-1/6..2"}, {span(whole(least), whole(most)), "-1000000000..1000000000"},
	} {
		if got := impl.SpanText(c.s); got != c.want {
			t.Errorf("%+v: got %q, want %q", c.s, got, c.want)
		}
	}
	for _, s := range invalidSpans() {
		if got := impl.SpanText(s); got != "" {
			t.Errorf("%+v: got %q", s, got)
		}
	}
}

func TestSpansAreReadFromTheirTexts(t *testing.T) {
	for _, s := range validSpans() {
		got, code := impl.ReadSpan(impl.SpanText(s))
		same(t, s, got, code, s, impl.OK)
	}
}

func TestReadSpanOfNoText(t *testing.T) {
	for _, text := range []string{
		"", "..", "1", "1..", "..1", "1.2", "1...2", "1....2", "1..2..3", "2..1", "1/2..1/3", "0..-1", "-1..-2", " 1..2", "1..2 ", "1 ..2", "1.. 2", "1..2\n",
		"2/4..1", "0..2/4", "+0..1", "-0..1", "0..-0", "0..01", "1/2", "1..1000000001", "-1000000001..1", "0..9223372036854775808", "1,2", "1..2..",
		strings.Repeat(".", 100000), strings.Repeat("1", 100000) + ".." + strings.Repeat("2", 100000),
	} {
		got, code := impl.ReadSpan(text)
		same(t, text, got, code, Span{}, impl.ErrSyntax)
	}
}

func TestReadSpanOfEveryShortText(t *testing.T) {
	read := 0
	everyText("012./-", 7, func(text string) {
		low, high, parted := strings.Cut(text, "..")
		var want Span
		wantCode := int64(impl.ErrSyntax)
		a, one := expectFrac(low)
		b, two := expectFrac(high)
		if parted && one == impl.OK && two == impl.OK && rat(a).Cmp(rat(b)) <= 0 {
			want, wantCode = span(a, b), impl.OK
		}
		got, code := impl.ReadSpan(text)
		same(t, text, got, code, want, wantCode)
		if code == impl.OK {
			read++
		}
	})
	if read < 500 {
		t.Errorf("only %d were read", read)
	}
}
