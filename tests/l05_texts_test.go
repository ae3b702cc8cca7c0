package tests

import (
	"math/rand"
	"regexp"
	"slices"
	"strconv"
	"strings"
	"testing"

	"loop.example/g01254/impl"
)

func TestChainText(t *testing.T) {
	for _, c := range []struct {
		list []Standard
		want string
	}{
		{nil, ""}, {exampleChain(), "metre - 1000..1000 0 0 1000\nbar metre 1..2 1/100 10 100\ntape bar -1..1 0 60 30\n"},
		{[]Standard{standard("abcdefghijkl", -1, span(frac(-7, 2), frac(-1, most)), frac(most-1, most), impl.MaxDay, impl.MaxDay)}, "abcdefghijkl - -7/2..-1/1000000000 999999999/1000000000 100000 100000\n"},
		{[]Standard{steady("z", -1, between(least, most)), standard("a", 0, between(0, 0), whole(0), 0, 0), standard("zz", -1, between(0, 0), whole(1), 1, 1), standard("b", 0, span(whole(0), frac(1, 3)), whole(most), 7, 0)}, "z - -1000000000..1000000000 0 0 100000\na z 0..0 0 0 0\nzz - 0..0 1 1 1\nb z 0..1/3 1000000000 7 0\n"},
	} {
		if got := impl.ChainText(c.list); got != c.want {
			t.Errorf("%+v: got %q, want %q", c.list, got, c.want)
		}
		got, code := impl.ReadChain(c.want)
		sameChain(t, c.want, got, code, c.list, impl.OK)
	}
	for _, list := range invalidChains() {
		if got := impl.ChainText(list); got != "" {
			t.Errorf("%+v: got %q", list, got)
		}
	}
}

func TestChainsAreReadFromTheirTexts(t *testing.T) {
	for _, list := range validChains() {
		text := impl.ChainText(list)
		got, code := impl.ReadChain(text)
		sameChain(t, list, got, code, list, impl.OK)
		if !impl.SameChain(got, list) || strings.Count(text, "\n") != len(list) {
			t.Errorf("%+v has the text %q, of %+v", list, text, got)
		}
	}
}

func TestReadChainOfNoText(t *testing.T) {
	const a = "a - 0..1 0 0 9\n"
	line30 := impl.ChainText(firstOnes(30))
	for _, text := range []string{
		"\n", " ", " \n", "-\n", "a", "a\n", "a -", "a - 0..1 0 0 9", "a - 0..1 0 0 9\n\n", "\na - 0..1 0 0 9\n", "a - 0..1 0 0 9\r\n", "a - 0..1 0 0 9 \n", " a - 0..1 0 0 9\n", "a - 0..1 0 0 9\n ", "a - 0..1 0 0 9\x00\n", "a - 0..1 0 0 9\n\x00",
		"a  - 0..1 0 0 9\n", "a -  0..1 0 0 9\n", "a - 0..1  0 0 9\n", "a - 0..1 0  0 9\n", "a - 0..1 0 0  9\n", "a\t- 0..1 0 0 9\n", "a - 0..1 0 0\t9\n", "a - 0..1 0 0\n", "a - 0..1 0 0 9 9\n", "a 0..1 0 0 9\n", "- 0..1 0 0 9\n", "a - 0..1 0 0\n9\n", "a -\n0..1 0 0 9\n", "a - 0 .. 1 0 0 9\n",
		" - 0..1 0 0 9\n", "A - 0..1 0 0 9\n", "a1 - 0..1 0 0 9\n", "- - 0..1 0 0 9\n", "abcdefghijklm - 0..1 0 0 9\n", "\xff - 0..1 0 0 9\n", "ä - 0..1 0 0 9\n", "a. - 0..1 0 0 9\n",
		"a -1 0..1 0 0 9\n", "a 0 0..1 0 0 9\n", "a a 0..1 0 0 9\n", "a b 0..1 0 0 9\n", "a -- 0..1 0 0 9\n", "a  0..1 0 0 9\n", "a _ 0..1 0 0 9\n", "a none 0..1 0 0 9\n", "a b 0..1 0 0 9\nb - 0..1 0 0 9\n", a + "b b 0..1 0 0 9\n", a + "b c 0..1 0 0 9\nc - 0..1 0 0 9\n", a + "b A 0..1 0 0 9\n", a + "b 0 0..1 0 0 9\n", a + "b aa 0..1 0 0 9\n", a + "b  0..1 0 0 9\n", a + "a - 0..1 0 0 9\n", a + "a a 0..1 0 0 9\n", a + a,
		"a - 1..0 0 0 9\n", "a - 0 0 0 9\n", "a - 0..1..2 0 0 9\n", "a - 0...1 0 0 9\n", "a - ..1 0 0 9\n", "a - 0.. 0 0 9\n", "a - .. 0 0 9\n", "a - 0.1 0 0 9\n", "a - 2/4..1 0 0 9\n", "a - 0..4/2 0 0 9\n", "a - -0..1 0 0 9\n", "a - 0..+1 0 0 9\n", "a - 00..1 0 0 9\n", "a - 0..1000000001 0 0 9\n", "a - 0..1/0 0 0 9\n", "a - 0..1/1 0 0 9\n", "a - 0-1 0 0 9\n",
		"a - 0..1 -1 0 9\n", "a - 0..1 -1/2 0 9\n", "a - 0..1 +1 0 9\n", "a - 0..1 01 0 9\n", "a - 0..1 -0 0 9\n", "a - 0..1 2/4 0 9\n", "a - 0..1 1/0 0 9\n", "a - 0..1 1000000001 0 9\n", "a - 0..1 1.5 0 9\n", "a - 0..1 x 0 9\n", "a - 0..1 0/1 0 9\n", "a - 0..1 - 0 9\n",
		"a - 0..1 0 -1 9\n", "a - 0..1 0 +1 9\n", "a - 0..1 0 01 9\n", "a - 0..1 0 00 9\n", "a - 0..1 0 -0 9\n", "a - 0..1 0 100001 9\n", "a - 0..1 0 1/2 9\n", "a - 0..1 0 1/1 9\n", "a - 0..1 0 x 9\n", "a - 0..1 0 1_0 9\n", "a - 0..1 0 0x1 9\n", "a - 0..1 0 1e3 9\n", "a - 0..1 0 4294967297 9\n", "a - 0..1 0 18446744073709551617 9\n", "a - 0..1 0 9223372036854775808 9\n",
		"a - 0..1 0 0 -1\n", "a - 0..1 0 0 +1\n", "a - 0..1 0 0 09\n", "a - 0..1 0 0 -0\n", "a - 0..1 0 0 100001\n", "a - 0..1 0 0 1/2\n", "a - 0..1 0 0 x\n", "a - 0..1 0 0 4294967305\n", "a - 0..1 0 0 18446744073709551617\n", "a - 0..1 0 0 9.\n",
		a + "b a 0..1 0 10 0\n", "a - 0..1 0 5 9\nb a 0..1 0 4 0\n", "a - 0..1 0 5 9\nb a 0..1 0 15 0\n", a + "b a 0..1 0 9 0", a + "\nb a 0..1 0 9 0\n", a + "b a 0..1 0 9 0\n\n",
		line30 + "x - 0..0 0 0 0\n", line30 + "\n", line30 + "x", line30[3:], line30[:len(line30)-1], strings.Repeat(a, 31), strings.Repeat(a, 60000), strings.Repeat("\n", 1000000), strings.Repeat("a", 1000000), strings.Repeat(" ", 1000000), "a - 0..1 0 0 " + strings.Repeat("0", 1000000) + "\n", "a - 0..1 0 0 " + strings.Repeat("9", 1000000) + "\n", "a" + strings.Repeat(" a", 400000) + "\n", "a - " + strings.Repeat("..", 400000) + " 0 0 9\n",
	} {
		got, code := impl.ReadChain(text)
		sameChain(t, text[:min(len(text), 200)], got, code, nil, impl.ErrSyntax)
	}
}

var standardPattern = regexp.MustCompile(`^([a-z]{1,12}) (-|[a-z]+) (\S+)\.\.(\S+) (\S+) (0|[1-9][0-9]*) (0|[1-9][0-9]*)$`)

// expectReadChain reads a text, which has no great numbers, in another way.
func expectReadChain(text string) ([]Standard, int64) {
	if text == "" {
		return nil, impl.OK
	}
	lines := strings.Split(text, "\n")
	if lines[len(lines)-1] != "" {
		return nil, impl.ErrSyntax
	}
	var list []Standard
	for _, line := range lines[:len(lines)-1] {
		words := standardPattern.FindStringSubmatch(line)
		if words == nil {
			return nil, impl.ErrSyntax
		}
		from := int64(slices.IndexFunc(list, func(s Standard) bool { return s.Name == words[2] }))
		low, one := expectFrac(words[3])
		high, two := expectFrac(words[4])
		drift, three := expectFrac(words[5])
		made, _ := strconv.ParseInt(words[6], 10, 64)
		good, _ := strconv.ParseInt(words[7], 10, 64)
		if one+two+three != impl.OK || from < 0 && words[2] != "-" {
			return nil, impl.ErrSyntax
		}
		list = append(list, standard(words[1], from, span(low, high), drift, made, good))
	}
	if !isChain(list) {
		return nil, impl.ErrSyntax
	}
	return list, impl.OK
}

// TestReadChainOfNearlyEveryText leaves out, puts in and changes each byte of some texts.
func TestReadChainOfNearlyEveryText(t *testing.T) {
	read, other := 0, 0
	check := func(text string) {
		got, code := impl.ReadChain(text)
		want, wantCode := expectReadChain(text)
		sameChain(t, text, got, code, want, wantCode)
		if code == impl.OK {
			read++
		} else {
			other++
		}
	}
	for _, text := range []string{
		"", "a - 0..0 0 0 0\n", "a - -7/2..5/4 1/10 7 30\nb a 0..2 0 9 99\n", "metre - 1000..1000 0 0 1000\nbar metre 1..2 1/100 10 100\ntape bar -1..1 0 60 30\n", "aa - 0..0 0 5 5\nab - 0..0 0 6 4\nac aa 0..0 0 10 0\nb ab 0..0 0 10 9\n", "abcdefghijkl - 0..0 0 99999 100000\nb abcdefghijkl 1..1 3 100000 0\n",
	} {
		nearly(text, []string{"0", "1", "9", "-", "+", "/", ".", " ", "\n", "a", "b", "c", "A", "{", "`", "\t", "\r", "\x00", "\xff"}, check)
	}
	if read < 500 || other < 3000 {
		t.Errorf("%d were read, and %d not", read, other)
	}
}

// TestReadChainOfWordsInAnyOrder puts together lines of words that can stand in a text, so that names come earlier and later.
func TestReadChainOfWordsInAnyOrder(t *testing.T) {
	random := rand.New(rand.NewSource(5))
	names, numbers := []string{"a", "b", "c", "d", "-"}, []string{"0", "1", "2", "3", "5", "8"}
	told := map[int64]int{}
	for range 20000 {
		text := ""
		for i := range 1 + random.Intn(4) {
			name := names[i]
			if random.Intn(5) == 0 {
				name = names[random.Intn(len(names))]
			}
			low, high := numbers[random.Intn(4)], numbers[2+random.Intn(4)]
			words := []string{name, names[(4+random.Intn(i+2))%5], low + ".." + high, numbers[random.Intn(6)], numbers[random.Intn(6)], numbers[random.Intn(6)]}
			text += strings.Join(words, " ") + "\n"
		}
		got, code := impl.ReadChain(text)
		want, wantCode := expectReadChain(text)
		sameChain(t, text, got, code, want, wantCode)
		told[code]++
	}
	enough(t, told, 1000, impl.OK, impl.ErrSyntax)
}
