package lex_test

import (
	"slices"
	"strings"
	"testing"

	"weirgate/api"
	"weirgate/lex"
)

// letters, digits and blanks are those of the chapter.
const (
	letters = "ABCDEFGHIJKLMNOPQRSTUVWXYZabcdefghijklmnopqrstuvwxyz"
	digits  = "0123456789"
	blanks  = " \t\r\n"
)

// keywords are those of the chapter.
func keywords() []string {
	return strings.Fields("chan of lossy copying var proc safe deadlock send recv idle when choose or if else while atomic skip stop len")
}

// signs are those of the chapter.
func signs() []string {
	return strings.Fields("== && || { } [ ] ( ) ; = < + - * / % !")
}

// isWord reports whether all of s is a word.
func isWord(s string) bool {
	return s != "" && strings.Contains(letters, s[:1]) && strings.Trim(s, letters+digits+"_") == ""
}

// isDigits reports whether s consists of digits.
func isDigits(s string) bool {
	return s != "" && strings.Trim(s, digits) == ""
}

// plainToken returns the kind and the size of the longest token with which s begins: it tries all sizes. Size 0, if there is none; digits may be too many.
func plainToken(s string) (int, int) {
	for size := len(s); size > 0; size-- {
		switch {
		case isWord(s[:size]):
			return api.TokWord, size
		case isDigits(s[:size]):
			return api.TokNum, size
		case slices.Contains(signs(), s[:size]):
			return api.TokSign, size
		}
	}
	return 0, 0
}

// plainTokens does, step by step, what the chapter's words say about a text that is not too long.
func plainTokens(s string) ([]api.Token, api.Fault) {
	var tokens []api.Token
	comment := false
	for at := 0; at < len(s); {
		switch {
		case comment:
			comment = s[at] != '\n'
			at++
			continue
		case strings.Contains(blanks, s[at:at+1]):
			at++
			continue
		case strings.HasPrefix(s[at:], "//"):
			comment = true
			continue
		}
		kind, size := plainToken(s[at:])
		if size == 0 || kind == api.TokNum && size > 6 {
			return nil, api.Fault{Err: api.ErrLex, At: at}
		}
		tokens = append(tokens, api.Token{Kind: kind, S: s[at : at+size], At: at})
		at += size
	}
	return append(tokens, api.Token{Kind: api.TokEnd, At: len(s)}), api.Fault{}
}

// texts returns all texts of so many letters of an alphabet.
func texts(alphabet string, size int) []string {
	all := []string{""}
	for range size {
		var longer []string
		for _, s := range all {
			for i := range len(alphabet) {
				longer = append(longer, s+alphabet[i:i+1])
			}
		}
		all = longer
	}
	return all
}

// short returns the beginning of a text, for a message.
func short(s string) string {
	return s[:min(len(s), 60)]
}

// checkPlain compares Tokens with plainTokens.
func checkPlain(t *testing.T, s string) {
	t.Helper()
	want, fault := plainTokens(s)
	if got, f := lex.Tokens(s); f != fault || !slices.Equal(got, want) {
		t.Errorf("Tokens(%q) are %v, %v, not %v, %v", short(s), got, f, want, fault)
	}
}

// checkTokens compares the tokens of a text, of which those at the same place in kinds are of that kind: w, n or s.
func checkTokens(t *testing.T, s, kinds string, want ...string) {
	t.Helper()
	got, f := lex.Tokens(s)
	if f != (api.Fault{}) || len(got) != len(want)+1 || len(kinds) != len(want) {
		t.Errorf("Tokens(%q) are %v, %v, not %q", short(s), got, f, want)
		return
	}
	for i, w := range want {
		kind := map[byte]int{'w': api.TokWord, 'n': api.TokNum, 's': api.TokSign}[kinds[i]]
		if got[i].S != w || got[i].Kind != kind || s[got[i].At:got[i].At+len(w)] != w {
			t.Errorf("of Tokens(%q) %d is %v, not %q of kind %d", short(s), i, got[i], w, kind)
		}
	}
	if end := (api.Token{Kind: api.TokEnd, At: len(s)}); got[len(want)] != end {
		t.Errorf("Tokens(%q) end with %v, not %v", short(s), got[len(want)], end)
	}
}

// checkFault checks that a text has no tokens, but a fault.
func checkFault(t *testing.T, s string, err api.Errno, at int) {
	t.Helper()
	if got, f := lex.Tokens(s); len(got) != 0 || f != (api.Fault{Err: err, At: at}) {
		t.Errorf("Tokens(%q) are %v, %v, not error %d at %d", short(s), got, f, int(err), at)
	}
}
