package tests

import (
	"math/rand"
	"regexp"
	"strconv"
	"strings"
	"testing"

	"loop.example/g01254/impl"
)

func TestReadersText(t *testing.T) {
	for _, c := range []struct {
		list []Reader
		want string
	}{
		{nil, ""}, {[]Reader{}, ""}, {[]Reader{exampleReader()}, "ann 1 5 up\n"}, {[]Reader{exampleReader(), reader("bob", 0, 1, true), reader("cai", 2, 1, false)}, "ann 1 5 up\nbob 0 1 up\ncai 2 1 down\n"},
		{[]Reader{reader("abcdefghijkl", -50, 20, false), reader("z", 50, 19, true), reader("z", -1, 10, false), reader("z", -1, 10, false)}, "abcdefghijkl -50 20 down\nz 50 19 up\nz -1 10 down\nz -1 10 down\n"}, {repeated(reader("up", 0, 1, false), 12), strings.Repeat("up 0 1 down\n", 12)}, {repeated(reader("up", 0, 1, false), 13), ""}, {repeated(reader("up", 0, 1, false), 1000), ""},
	} {
		if got := impl.ReadersText(c.list); got != c.want {
			t.Errorf("%+v: got %q, want %q", c.list, got, c.want)
		}
		if len(c.list) <= 12 {
			got, code := impl.ReadReaders(c.want)
			sameList(t, c.want, got, code, c.list, impl.OK)
		}
	}
	for _, bad := range invalidReaders() {
		for _, list := range [][]Reader{{bad}, {exampleReader(), bad}, {bad, exampleReader()}, append(namedReaders(11), bad), append(namedReaders(12), bad)} {
			if got := impl.ReadersText(list); got != "" {
				t.Errorf("%+v: got %q", list, got)
			}
		}
	}
}

func TestReadersAreReadFromTheirTexts(t *testing.T) {
	all := validReaders()
	for i := range all {
		for n := range 13 {
			if i+n > len(all) {
				continue
			}
			list := all[i : i+n]
			text := impl.ReadersText(list)
			got, code := impl.ReadReaders(text)
			sameList(t, text, got, code, list, impl.OK)
			if strings.Count(text, "\n") != n {
				t.Errorf("%+v has the text %q", list, text)
			}
		}
	}
	for _, g := range allGuesses() {
		list := []Reader{reader("a", g.Bias, g.Unit, g.Up)}
		got, code := impl.ReadReaders(impl.ReadersText(list))
		sameList(t, g, got, code, list, impl.OK)
	}
}

func TestReadReadersOfNoText(t *testing.T) {
	const a = "ann 1 5 up\n"
	twelve := impl.ReadersText(namedReaders(12))
	for _, text := range []string{
		"\n", " ", " \n", "\n\n", "ann", "ann\n", "ann 1\n", "ann 1 5\n", "ann 1 5 up", "ann 1 5 up\n\n", "\nann 1 5 up\n", "ann 1 5 up\r\n", "ann 1 5 up \n", " ann 1 5 up\n", "ann 1 5 up\n ", "ann 1 5 up\x00\n", "ann 1 5 up\n\x00", "ann 1 5 up\nx", "ann 1 5 up up\n", "ann 1 5 up 7\n", "1 5 up\n", "ann 5 up\n", "ann 1 up\n", "ann 1 5 \n",
		"ann  1 5 up\n", "ann 1  5 up\n", "ann 1 5  up\n", "ann\t1 5 up\n", "ann 1 5\tup\n", "ann 1 5\nup\n", "ann 1\n5 up\n", "ann\n1 5 up\n", "ann,1,5,up\n", "ann 1 5 up;",
		" 1 5 up\n", "Ann 1 5 up\n", "ann1 1 5 up\n", "an-n 1 5 up\n", "- 1 5 up\n", "abcdefghijklm 1 5 up\n", "\xff 1 5 up\n", "änn 1 5 up\n", "a. 1 5 up\n", "a\x00 1 5 up\n",
		"ann +1 5 up\n", "ann 01 5 up\n", "ann -0 5 up\n", "ann 00 5 up\n", "ann -01 5 up\n", "ann 51 5 up\n", "ann -51 5 up\n", "ann 1.0 5 up\n", "ann 1/1 5 up\n", "ann x 5 up\n", "ann - 5 up\n", "ann --1 5 up\n", "ann 1_0 5 up\n", "ann 0x1 5 up\n", "ann 1e1 5 up\n", "ann 65537 5 up\n", "ann -65535 5 up\n", "ann 4294967297 5 up\n", "ann 18446744073709551617 5 up\n", "ann 9223372036854775808 5 up\n", "ann 32768 5 up\n", "ann ١ 5 up\n",
		"ann 1 0 up\n", "ann 1 -5 up\n", "ann 1 +5 up\n", "ann 1 05 up\n", "ann 1 -0 up\n", "ann 1 21 up\n", "ann 1 5/1 up\n", "ann 1 5.0 up\n", "ann 1 x up\n", "ann 1 2_0 up\n", "ann 1 0x5 up\n", "ann 1 65541 up\n", "ann 1 4294967301 up\n", "ann 1 18446744073709551621 up\n", "ann 1 5e0 up\n",
		"ann 1 5 Up\n", "ann 1 5 UP\n", "ann 1 5 Down\n", "ann 1 5 u\n", "ann 1 5 upp\n", "ann 1 5 dow\n", "ann 1 5 downs\n", "ann 1 5 true\n", "ann 1 5 false\n", "ann 1 5 1\n", "ann 1 5 -\n", "ann 1 5 up\x00\n", "ann 1 5 up.\n", "ann 1 5 updown\n", "ann 1 5 left\n",
		a + "bob 0 1", a + "bob 0 1 up", a + "\n" + a, a + a + "\n", a + "bob 0 0 up\n", a + "bob 0 1 sideways\n", a + " " + a, "ann 1 5 up ann 1 5 up\n",
		twelve + a, twelve + "\n", twelve + " ", twelve + "x", twelve[:len(twelve)-1], twelve[3:], strings.Repeat(a, 13), strings.Repeat(a, 90000), strings.Repeat("\n", 1000000), strings.Repeat("a", 1000000), strings.Repeat(" ", 1000000), "ann 1 " + strings.Repeat("0", 1000000) + " up\n", "ann 1 " + strings.Repeat("9", 1000000) + " up\n", strings.Repeat("a ", 500000), strings.Repeat("a", 1000000) + " 1 5 up\n",
	} {
		got, code := impl.ReadReaders(text)
		sameList(t, text[:min(len(text), 200)], got, code, nil, impl.ErrSyntax)
	}
}

var readerPattern = regexp.MustCompile(`^([a-z]{1,12}) (0|-?[1-9][0-9]?) ([1-9][0-9]?) (up|down)$`)

// expectReadReaders reads a text in another way.
func expectReadReaders(text string) ([]Reader, int64) {
	if text == "" {
		return nil, impl.OK
	}
	lines := strings.Split(text, "\n")
	if lines[len(lines)-1] != "" || len(lines) > 13 {
		return nil, impl.ErrSyntax
	}
	var list []Reader
	for _, line := range lines[:len(lines)-1] {
		words := readerPattern.FindStringSubmatch(line)
		if words == nil {
			return nil, impl.ErrSyntax
		}
		bias, _ := strconv.Atoi(words[2])
		unit, _ := strconv.Atoi(words[3])
		list = append(list, reader(words[1], int16(bias), int16(unit), words[4] == "up"))
	}
	if !areReaders(list) {
		return nil, impl.ErrSyntax
	}
	return list, impl.OK
}

// TestReadReadersOfNearlyEveryText leaves out, puts in and changes each byte of some texts.
func TestReadReadersOfNearlyEveryText(t *testing.T) {
	told := map[int64]int{}
	check := func(text string) {
		got, code := impl.ReadReaders(text)
		want, wantCode := expectReadReaders(text)
		sameList(t, text, got, code, want, wantCode)
		told[code]++
	}
	for _, text := range []string{
		"", "a 0 1 up\n", "ann 1 5 up\nbob -50 20 down\n", "abcdefghijkl 50 2 down\nx -1 19 up\nx -1 19 up\n", strings.Repeat("a 0 1 up\n", 12), strings.Repeat("a 0 1 up\n", 13), "down 1 1 up\nup 1 1 down\n",
	} {
		nearly(text, []string{"0", "1", "2", "5", "9", "-", "+", "/", ".", " ", "\n", "a", "p", "u", "n", "A", "{", "`", "\t", "\r", "\x00", "\xff"}, check)
	}
	enough(t, told, 500, impl.OK, impl.ErrSyntax)
}

// TestReadReadersOfWords puts together lines of words that can stand in a text.
func TestReadReadersOfWords(t *testing.T) {
	random := rand.New(rand.NewSource(63))
	numbers := []string{"0", "1", "-1", "5", "20", "21", "50", "-50", "51", "-51", "-0", "+1", "01"}
	told := map[int64]int{}
	for range 20000 {
		text := ""
		for range random.Intn(4) {
			words := []string{[]string{"a", "ann", "up", "abcdefghijkl", "abcdefghijklm", ""}[min(random.Intn(12), 5)%6], numbers[random.Intn(13)], numbers[random.Intn(13)], []string{"up", "down", "up", "down", "Up"}[random.Intn(5)]}
			if random.Intn(3) > 0 {
				words[0], words[1], words[2] = "ann", numbers[random.Intn(8)%6], numbers[[]int{1, 3, 4}[random.Intn(3)]]
			}
			text += strings.Join(words, " ") + "\n"
		}
		got, code := impl.ReadReaders(text)
		want, wantCode := expectReadReaders(text)
		sameList(t, text, got, code, want, wantCode)
		told[code]++
	}
	enough(t, told, 2000, impl.OK, impl.ErrSyntax)
}
