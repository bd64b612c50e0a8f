package clause

import (
	"slices"
	"strings"
	"testing"

	"weirgate/api"
)

func equal(a, b [][]int) bool {
	return slices.EqualFunc(a, b, func(x, y []int) bool { return slices.Equal(x, y) })
}

// P1.3.
func TestShow(t *testing.T) {
	for _, x := range []struct {
		cs   [][]int
		want string
	}{
		{nil, "p cnf 0 0\n"},
		{[][]int{}, "p cnf 0 0\n"},
		{[][]int{nil}, "p cnf 0 1\n0\n"},
		{[][]int{{1, -2}}, "p cnf 2 1\n1 -2 0\n"},
		{[][]int{{3, -1, 3}, {}, {1, -1}}, "p cnf 3 3\n3 -1 3 0\n0\n1 -1 0\n"},
		{[][]int{{-api.MaxVar}, {10}}, "p cnf 100000 2\n-100000 0\n10 0\n"},
	} {
		if got := Show(x.cs); got != x.want {
			t.Errorf("Show(%v) is %q", x.cs, got)
		}
	}
	for _, n := range notLiterals() {
		for _, cs := range [][][]int{{{n}}, {{1}, {2, n}}, {{n, 2}, {1}}} {
			if got := Show(cs); got != "" {
				t.Errorf("Show(%v) is %q", cs, got)
			}
		}
	}
}

// P1.3.
func TestParse(t *testing.T) {
	for _, x := range []struct {
		s    string
		want [][]int
	}{
		{"p cnf 0 0", nil},
		{"p cnf 0 0\n", nil},
		{"p cnf 0 1\n0\n", [][]int{nil}},
		{"p cnf 0 2 0 000000", [][]int{nil, nil}},
		{"p cnf 2 1\n1 -2 0\n", [][]int{{1, -2}}},
		{"p cnf 3 2\n3 -1 3 0\n1 -1 0\n", [][]int{{3, -1, 3}, {1, -1}}},
		{"p cnf 9 2\n1\n2 0 3\n0", [][]int{{1, 2}, {3}}},
		{" \t\r\n p\tcnf\r1\n1\t1\r0 \r\n", [][]int{{1}}},
		{"p cnf 1 1 1 0", [][]int{{1}}},
		{"p cnf 000007 000001 -000007 00", [][]int{{-7}}},
		{"p cnf 100000 1 100000 -100000 0", [][]int{{100000, -100000}}},
		{"p cnf 999999 1 100000 0", [][]int{{100000}}},
		{"p cnf 999999 0", nil},
	} {
		got, e := Parse(x.s)
		if e != api.OK || !equal(got, x.want) {
			t.Errorf("Parse(%q) is %v, %v", x.s, got, e)
		}
	}
}

// P1.3: lines that begin with c, wherever they are.
func TestParseSkips(t *testing.T) {
	for s, want := range map[string][][]int{
		"c\np cnf 2 1\n1 2 0":                {{1, 2}},
		"c p cnf 9 9\np cnf 2 1\n1 2 0":      {{1, 2}},
		"p\nc 7\n cnf\nc\n 2\nc\n1\n1 2 0":   {{1, 2}},
		"p cnf 2 1\n1\nc 9 0\n2\ncx\n0":      {{1, 2}},
		"p cnf 2 1\n1 2 0\nc":                {{1, 2}},
		"p cnf 2 1\n1 2 0\nc 9 9 9":          {{1, 2}},
		"p cnf 2 1\r\n1 2 0\r\nc \x00\xff\r": {{1, 2}},
		"c\nc\nc\np cnf 0 0\nc\nc":           {},
		"p\rcnf 2 1\n1 2 0":                  {{1, 2}},
	} {
		if got, e := Parse(s); e != api.OK || !equal(got, want) {
			t.Errorf("Parse(%q) is %v, %v", s, got, e)
		}
	}
	for _, s := range []string{
		"p\ncnf 2 1\n1 2 0",
		" c\np cnf 2 1\n1 2 0",
		"p cnf 2 1\n1 2 0\n c",
		"p cnf 2 1\n1 2 0\rc",
		"p cnf 2 1\n1 2 0 c",
		"C\np cnf 2 1\n1 2 0",
	} {
		if got, e := Parse(s); e != api.ErrParse || len(got) != 0 {
			t.Errorf("Parse(%q) is %v, %v", s, got, e)
		}
	}
}

// P1.3.
func TestParseErrors(t *testing.T) {
	for _, s := range []string{
		// the first words
		"", " ", "\n", "c", "p", "p cnf", "p cnf 1", "cnf p 0 0", "P cnf 0 0", "p CNF 0 0", "pcnf 0 0", "p cnf0 0", "1 0",
		"p cnf -1 0", "p cnf 0 -0", "p cnf -0 0", "p cnf +1 0", "p cnf 0 +0", "p cnf 0000000 0", "p cnf 0 0000000", "p cnf 1000000 0", "p cnf x 0", "p cnf 0 x", "p cnf 1x 0", "p cnf 0x1 0",
		// the following words
		"p cnf 1 1\nx 0", "p cnf 1 1\n1x 0", "p cnf 1 1\n+1 0", "p cnf 1 1\n--1 0", "p cnf 1 1\n1- 0", "p cnf 1 1\n- 0", "p cnf 1 1\n1 -", "p cnf 1 1\n1 -0", "p cnf 1 1\n-000 1 0", "p cnf 1 1\n1 0000000",
		"p cnf 1 1\n0000001 0", "p cnf 1 1\n-0000001 0", "p cnf 1 1\n1.0 0", "p cnf 9 1\n1_0 0", "p cnf 1 1\n1,0", "p cnf 1 1\n- 1 0", "p cnf 1 1\n\u0661 0", "p cnf 1 1\n1\xff 0",
		"p cnf 999999 1\n100001 0", "p cnf 999999 1\n-100001 0", "p cnf 999999 1\n999999 0",
		// other blanks
		"p cnf 1 1\n1\v0", "p cnf 1 1\n1\f0", "p cnf 1 1\n1\u00a00", "p cnf 1 1\n1\u20280", "p cnf 1 1\n1\x000", "\ufeffp cnf 0 0",
		// no 0 after the last clause
		"p cnf 1 1\n1", "p cnf 1 1\n1 0 1", "p cnf 1 2\n1 0 1", "p cnf 1 0\n1",
		// greater than V
		"p cnf 1 1\n2 0", "p cnf 1 1\n-2 0", "p cnf 0 1\n1 0", "p cnf 99999 1\n100000 0",
		// not N
		"p cnf 1 1", "p cnf 1 2\n1 0", "p cnf 1 0\n1 0", "p cnf 1 1\n1 0 0", "p cnf 1 1\n1 0 1 0", "p cnf 0 0 0",
		// a second header
		"p cnf 1 1\np cnf 1 1\n1 0",
	} {
		if got, e := Parse(s); e != api.ErrParse || len(got) != 0 {
			t.Errorf("Parse(%q) is %v, %v", s, got, e)
		}
	}
}

// P1.3: the length comes first, and counts bytes.
func TestParseBig(t *testing.T) {
	good := "p cnf 1 1\n1 0\n"
	full := good + strings.Repeat(" ", 100000-len(good))
	if got, e := Parse(full); e != api.OK || !equal(got, [][]int{{1}}) {
		t.Errorf("100000 bytes: %v, %v", got, e)
	}
	for _, s := range []string{full + " ", full + "\n", full + "x", strings.Repeat("x", 100001), strings.Repeat("\n", 1<<20), "c" + strings.Repeat("\u00e9", 50000)} {
		if got, e := Parse(s); e != api.ErrBig || len(got) != 0 {
			t.Errorf("%d bytes: %v, %v", len(s), got, e)
		}
	}
	for _, s := range []string{strings.Repeat("x", 100000), strings.Repeat("\n", 100000), strings.Repeat("c", 100000), strings.Repeat("0 ", 50000)} {
		if got, e := Parse(s); e != api.ErrParse || len(got) != 0 {
			t.Errorf("%d bytes: %v, %v", len(s), got, e)
		}
	}
}

// P1.3: the clauses of a text that Show made are those that it was given.
func TestParseOfShow(t *testing.T) {
	var valid [][]int
	for _, c := range lists(3, 3) {
		if !Right(c) {
			continue
		}
		valid = append(valid, c)
		if got, e := Parse(Show([][]int{c, {-9}, c})); e != api.OK || !equal(got, [][]int{c, {-9}, c}) {
			t.Errorf("of %v: %v, %v", c, got, e)
		}
	}
	if got, e := Parse(Show(valid)); e != api.OK || !equal(got, valid) {
		t.Errorf("of all: %v, %v", got, e)
	}
}

// P1.3: whatever byte stands in a text, the call ends, and beside an error there are no clauses.
func TestParseOfAnyByte(t *testing.T) {
	good := "p cnf 2 2\n1 -2 0\n2 0\n"
	for at := range len(good) {
		for b := range 256 {
			s := good[:at] + string([]byte{byte(b)}) + good[at+1:]
			got, e := Parse(s)
			if e != api.OK && e != api.ErrParse || e != api.OK && len(got) != 0 {
				t.Errorf("Parse(%q) is %v, %v", s, got, e)
			}
			if e == api.OK && len(got) != 2 {
				t.Errorf("Parse(%q) is %v", s, got)
			}
		}
		if got, e := Parse(good[:at]); e == api.OK && at < len(good)-1 || e != api.OK && len(got) != 0 {
			t.Errorf("Parse(%q) is %v, %v", good[:at], got, e)
		}
	}
}

// P1.4: no two clauses share memory, nor do two calls.
func TestParseIsNew(t *testing.T) {
	s := "p cnf 9 3\n1 2 0 3 0 4 5 6 0"
	first, _ := Parse(s)
	second, _ := Parse(s)
	want := [][]int{{1, 2}, {3}, {4, 5, 6}}
	for i, c := range first {
		for len(c) < cap(c) {
			c = append(c, 99)
		}
		for j := range c {
			c[j] = 99
		}
		if !equal(first[i+1:], want[i+1:]) {
			t.Errorf("clause %d shares memory: %v", i, first)
		}
	}
	if !equal(second, want) {
		t.Errorf("calls share memory: %v", second)
	}
}
