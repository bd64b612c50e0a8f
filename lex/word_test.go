package lex_test

import (
	"math"
	"slices"
	"strings"
	"testing"

	"weirgate/api"
	"weirgate/lex"
)

// P8.2.
func TestKey(t *testing.T) {
	for _, k := range keywords() {
		if !lex.Key(k) || lex.Name(k) {
			t.Errorf("%q: a keyword %v, a name %v", k, lex.Key(k), lex.Name(k))
		}
		for _, s := range []string{strings.ToUpper(k), strings.ToUpper(k[:1]) + k[1:], k + "s", k + "_", k + "0", "x" + k, k[1:], k[:len(k)-1], k + k} {
			if lex.Key(s) != slices.Contains(keywords(), s) || lex.Name(s) == (lex.Key(s) || s == "" || len(s) > api.MaxName) {
				t.Errorf("%q: a keyword %v, a name %v", s, lex.Key(s), lex.Name(s))
			}
		}
		for _, s := range []string{k + " ", " " + k, k + "\n", k + ";", k + "\x00", "_" + k, "0" + k, k + " " + k} {
			if lex.Key(s) || lex.Name(s) {
				t.Errorf("%q: a keyword %v, a name %v", s, lex.Key(s), lex.Name(s))
			}
		}
	}
	others := append(signs(), "", " ", "a", "x1", "true", "for", "int", "program", "block", "end", "not", "and", "neg", "set", "num", strings.Repeat("stop", 1<<18))
	for _, s := range others {
		if lex.Key(s) {
			t.Errorf("%q is a keyword", short(s))
		}
	}
}

// P8.2.
func TestName(t *testing.T) {
	for s, want := range map[string]bool{
		"a": true, "Z": true, "x1": true, "a_": true, "A9_": true, "b__": true, "abcdefghijkl": true, "a12345678901": true, "a___________": true,
		"lenx": true, "Of": true, "OF": true, "o": true, "orr": true, "stop_": true,
		"": false, "_": false, "1": false, "_a": false, "1a": false, "9_": false,
		"abcdefghijklm": false, "a123456789012": false, "deadlockdeadlock": false,
		"a ": false, " a": false, "a b": false, "a-": false, "a.b": false, "a\n": false, "a\x00": false, "a;": false, "//": false, "a//": false, "==": false,
		"é": false, "aé": false, "a\xff": false, "\u0430": false, "a\u0661": false,
	} {
		if lex.Name(s) != want {
			t.Errorf("Name(%q) is %v", s, !want)
		}
	}
	for _, s := range []string{strings.Repeat("a", 1<<20), strings.Repeat("é", 6), strings.Repeat("é", 7)} {
		if lex.Name(s) {
			t.Errorf("%q is a name", short(s))
		}
	}
}

// P8.2: names of any bytes, and of any size, with a byte that is none of a word's at each place.
func TestNameOfAnyByte(t *testing.T) {
	for b := range 256 {
		c := string([]byte{byte(b)})
		first := strings.Contains(letters, c)
		later := first || strings.Contains(digits+"_", c)
		for size := range 2 * api.MaxName {
			rest := strings.Repeat("q", size)
			if got := lex.Name(c + rest); got != (first && size < api.MaxName) {
				t.Errorf("Name(%q) is %v", c+rest, got)
			}
			if got := lex.Name("Q" + rest + c); got != (later && size+2 <= api.MaxName) {
				t.Errorf("Name(%q) is %v", "Q"+rest+c, got)
			}
		}
		for at := 1; at < api.MaxName; at++ {
			s := "abcdefghijkl"[:at] + c + "abcdefghijkl"[at+1:]
			if got := lex.Name(s); got != later {
				t.Errorf("Name(%q) is %v", s, got)
			}
		}
	}
}

// P8.2: each name, and each keyword, is one token.
func TestNamesAreTokens(t *testing.T) {
	for size := range 5 {
		for _, s := range texts("ofR3_= ", size) {
			word := isWord(s)
			if lex.Name(s) != (word && s != "of") || lex.Key(s) != (s == "of") {
				t.Errorf("%q: a keyword %v, a name %v", s, lex.Key(s), lex.Name(s))
			}
			got, _ := lex.Tokens(s)
			if one := len(got) == 2 && got[0] == (api.Token{Kind: api.TokWord, S: s}); one != word {
				t.Errorf("%q has the tokens %v", s, got)
			}
		}
	}
}

// P8.2.
func TestPlace(t *testing.T) {
	for _, c := range []struct {
		s                string
		at, line, column int
	}{
		{"", 0, 1, 1}, {"", 1, 1, 1}, {"", -1, 1, 1}, {"", math.MaxInt, 1, 1}, {"", math.MinInt, 1, 1},
		{"safe x;", 5, 1, 6},
		{"ab\nc", 0, 1, 1}, {"ab\nc", 1, 1, 2}, {"ab\nc", 2, 1, 3}, {"ab\nc", 3, 2, 1}, {"ab\nc", 4, 2, 2},
		{"ab\nc", 5, 2, 2}, {"ab\nc", math.MaxInt, 2, 2}, {"ab\nc", -1, 1, 1}, {"ab\nc", -5, 1, 1}, {"ab\nc", math.MinInt, 1, 1},
		{"\n", 0, 1, 1}, {"\n", 1, 2, 1}, {"\n", 2, 2, 1}, {"a\n", 1, 1, 2}, {"a\n", 2, 2, 1}, {"a\n", 9, 2, 1},
		{"\n\n\nx", 1, 2, 1}, {"\n\n\nx", 2, 3, 1}, {"\n\n\nx", 3, 4, 1}, {"\n\n\nx", 4, 4, 2}, {"\n\n\nx", -1, 1, 1},
		// a carriage return, a tab and each byte of a longer letter is one column; a comment is nothing special
		{"a\r\nb", 1, 1, 2}, {"a\r\nb", 2, 1, 3}, {"a\r\nb", 3, 2, 1}, {"a\rb", 2, 1, 3}, {"\t\tx", 2, 1, 3}, {"éx", 1, 1, 2}, {"éx", 2, 1, 3}, {"\u2028x\vy", 5, 1, 6}, {"//a\nb", 3, 1, 4}, {"//a\nb", 4, 2, 1},
	} {
		if line, column := lex.Place(c.s, c.at); line != c.line || column != c.column {
			t.Errorf("Place(%q, %d) is %d, %d, not %d, %d", c.s, c.at, line, column, c.line, c.column)
		}
	}
}

// P8.2: of each position, going on byte by byte; a text may be too long to have tokens.
func TestPlaceOfAll(t *testing.T) {
	all := texts("a\n\r", 6)
	for _, s := range append(all, strings.Repeat("abc\n\n", 1000), strings.Repeat("x", 5000), strings.Repeat("\n", 5000)) {
		line, column := 1, 1
		for at := range len(s) + 1 {
			if l, c := lex.Place(s, at); l != line || c != column {
				t.Fatalf("Place(%q, %d) is %d, %d, not %d, %d", short(s), at, l, c, line, column)
			}
			column++
			if at < len(s) && s[at] == '\n' {
				line, column = line+1, 1
			}
		}
		endLine, endColumn := lex.Place(s, len(s))
		for _, at := range []int{len(s) + 1, len(s) + 99, math.MaxInt} {
			if l, c := lex.Place(s, at); l != endLine || c != endColumn {
				t.Errorf("Place(%q, %d) is %d, %d, not %d, %d", short(s), at, l, c, endLine, endColumn)
			}
		}
		for _, at := range []int{-1, -99, math.MinInt} {
			if l, c := lex.Place(s, at); l != 1 || c != 1 {
				t.Errorf("Place(%q, %d) is %d, %d", short(s), at, l, c)
			}
		}
	}
}
