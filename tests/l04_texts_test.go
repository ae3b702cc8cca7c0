package tests

import (
	"regexp"
	"strconv"
	"strings"
	"testing"

	"loop.example/g01254/impl"
)

func TestTableText(t *testing.T) {
	for _, c := range []struct {
		u    Table
		want string
	}{
		{openTable(1), "1\n"}, {closedTable(1, whole(0)), "1 closed 0\n"}, {closedTable(6, frac(-7, 2)), "6 closed -7/2\n"},
		{openTable(1, obs(whole(1), 1), heavy(100, frac(-5, 3), -3)), "1\n1 1 1\n-3 -5/3 100\n"},
		{closedTable(3, frac(1, 2), obs(whole(1), 1, -1), heavy(7, whole(0), 0, 0, 3)), "3 closed 1/2\n1 -1 0 1 1\n0 0 3 0 7\n"},
		{openTable(6, obs(whole(most), 1, -2, 3, -3, 2, -1)), "6\n1 -2 3 -3 2 -1 1000000000 1\n"},
		{openTable(1, repeated(obs(whole(2), 1), 24)...), "1\n" + strings.Repeat("1 2 1\n", 24)},
	} {
		if got := impl.TableText(c.u); got != c.want {
			t.Errorf("%+v: got %q, want %q", c.u, got, c.want)
		}
		got, code := impl.ReadTable(c.want)
		sameTable(t, c.want, got, code, c.u, impl.OK)
	}
	for _, u := range invalidTables() {
		if got := impl.TableText(u); got != "" {
			t.Errorf("%+v: got %q", u, got)
		}
	}
}

func TestTablesAreReadFromTheirTexts(t *testing.T) {
	for _, u := range validTables() {
		got, code := impl.ReadTable(impl.TableText(u))
		sameTable(t, u, got, code, u, impl.OK)
		if !impl.SameTable(got, u) {
			t.Errorf("%+v is not the same as %+v", got, u)
		}
	}
}

func TestReadTableOfNoText(t *testing.T) {
	for _, text := range []string{
		"", "\n", " \n", "1", "0\n", "7\n", "-1\n", "+1\n", "01\n", "1 \n", " 1\n", "1\n\n", "\n1\n", "1\r\n", "1/2\n", "2/2\n", "x\n", "1\x00\n", "1\t\n", "1 closed\n", "1 closed \n", "1closed 0\n", "1 closed0\n", "1 Closed 0\n", "1 open\n", "1 open 0\n",
		"1 0\n", "1 closed 2/4\n", "1 closed 1/0\n", "1 closed 0 \n", "1 closed  0\n", "1  closed 0\n", "1 closed 0 0\n", "1 closed -0\n", "1 closed 1000000001\n", "1 closed 0", "1 closed 0 closed 0\n", " closed 0\n", "closed 0\n", "1 closed 0\n\n", "7 closed 0\n", "-1 closed 0\n", "1/1 closed 0\n",
		"1\n1 1 1", "1\n1 1 1\n\n", "1\n\n1 1 1\n", "1\n1 1\n", "1\n1 1 1 1\n", "1\n 1 1 1\n", "1\n1 1 1 \n", "1\n1  1 1\n", "1\n1\t1 1\n", "1\n1 1 1\n1", "1\n1 1 1\n1 1 1", "1\n1,1,1\n", "1 1 1 1\n", "1\n1 1 1\r\n", "1\n1 1 1\x00\n", "1\n1 1 \xff\n",
		"1\n4 1 1\n", "1\n-4 1 1\n", "1\n0 1 1\n", "1\n-0 1 1\n", "1\n+1 1 1\n", "1\n01 1 1\n", "1\n1/2 1 1\n", "1\n3/1 1 1\n", "1\n257 1 1\n", "1\n-255 1 1\n", "1\n4294967297 1 1\n", "1\n65537 1 1\n", "1\n18446744073709551617 1 1\n", "1\n128 1 1\n", "1\n-128 1 1\n", "1\n127 1 1\n", "1\n256 1 1\n",
		"1\n1 2/4 1\n", "1\n1 1/1 1\n", "1\n1 1000000001 1\n", "1\n1 1.5 1\n", "1\n1 -0 1\n", "1\n1 1/0 1\n", "1\n1 1 0\n", "1\n1 1 101\n", "1\n1 1 -1\n", "1\n1 1 1/2\n", "1\n1 1 3/2\n", "1\n1 1 +1\n", "1\n1 1 01\n", "1\n1 1 4294967297\n", "1\n1 1 9223372036854775808\n", "1\n1 1 x\n",
		"2\n1 1 1\n", "2\n0 0 1 1\n", "2\n1 1 1 1 1\n", "6\n1 1 1 1 1 1 1 1 1\n", "5\n1 1 1 1 1 1 1 1\n", "6\n0 0 0 0 0 0 1 1\n", "7\n1 1 1 1 1 1 1 1 1\n", "0\n1 1\n", "-1\n1\n", "-2\n\n", "-1 closed 0\n1\n", "1 closed 0\n1 1\n", "1\n1 1 1\n1\n", "1000000000\n1 1 1\n",
		"1\n" + strings.Repeat("1 2 1\n", 25), "1\n" + strings.Repeat("1 2 1\n", 24) + "\n", "1\n" + strings.Repeat("1 2 1\n", 24) + "1", "1\n" + strings.Repeat("1 2 1\n", 24) + "0 2 1\n", "1\n" + strings.Repeat("1 2 1\n", 100000), "1" + strings.Repeat("\n", 1000000), strings.Repeat("1", 1000000), strings.Repeat(" ", 1000000), "1\n" + strings.Repeat("1 ", 500000) + "\n",
	} {
		got, code := impl.ReadTable(text)
		sameTable(t, text[:min(len(text), 200)], got, code, Table{}, impl.ErrSyntax)
	}
}

var (
	headPattern = regexp.MustCompile(`^([1-6])( closed (.*))?$`)
	obsPattern  = regexp.MustCompile(`^((?:(?:-?[123]|0) )+)(\S*) ([1-9]|[1-9][0-9]|100)$`)
)

// expectReadTable reads a text, which has no great numbers, in another way.
func expectReadTable(text string) (Table, int64) {
	lines := strings.Split(text, "\n")
	head := headPattern.FindStringSubmatch(lines[0])
	if head == nil || lines[len(lines)-1] != "" || len(lines) > 26 {
		return Table{}, impl.ErrSyntax
	}
	count, _ := strconv.Atoi(head[1])
	u := openTable(int64(count))
	if head[2] != "" {
		total, code := expectFrac(head[3])
		if code != impl.OK {
			return Table{}, impl.ErrSyntax
		}
		u = closedTable(int64(count), total)
	}
	for _, line := range lines[1 : len(lines)-1] {
		words := obsPattern.FindStringSubmatch(line)
		if words == nil || strings.Count(line, " ") != count+1 {
			return Table{}, impl.ErrSyntax
		}
		diff, code := expectFrac(words[2])
		weight, _ := strconv.Atoi(words[3])
		o := heavy(int64(weight), diff)
		for k, word := range strings.Fields(words[1]) {
			c, _ := strconv.Atoi(word)
			o.Coef[k] = int8(c)
		}
		if code != impl.OK || o.Coef == [6]int8{} {
			return Table{}, impl.ErrSyntax
		}
		u.Obs = append(u.Obs, o)
	}
	return u, impl.OK
}

func TestReadTableOfEveryShortText(t *testing.T) {
	read := 0
	everyText("10 \n-", 8, func(text string) {
		got, code := impl.ReadTable(text)
		want, wantCode := expectReadTable(text)
		sameTable(t, text, got, code, want, wantCode)
		if code == impl.OK {
			read++
		}
	})
	if read < 3 {
		t.Errorf("only %d were read", read)
	}
}

// TestReadTableOfNearlyEveryText leaves out, puts in and changes each byte of some texts.
func TestReadTableOfNearlyEveryText(t *testing.T) {
	read, other := 0, 0
	check := func(text string) {
		got, code := impl.ReadTable(text)
		want, wantCode := expectReadTable(text)
		sameTable(t, text, got, code, want, wantCode)
		if code == impl.OK {
			read++
		} else {
			other++
		}
	}
	for _, text := range []string{"1\n1 1 1\n", "2 closed -7/2\n1 -3 5/4 9\n0 1 0 10\n", "3\n", "6\n0 0 0 0 0 -2 12 100\n", "3 closed 0\n1 2 3 1 1\n-1 0 0 1/2 22\n"} {
		nearly(text, []string{"0", "1", "2", "4", "7", "-", "+", "/", " ", "\n", "c", "\x00", "\xff"}, check)
	}
	if read < 100 || other < 1000 {
		t.Errorf("%d were read, and %d not", read, other)
	}
}
