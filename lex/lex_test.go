package lex_test

import (
	"math/rand/v2"
	"slices"
	"strings"
	"testing"

	"weirgate/api"
	"weirgate/lex"
)

// P8.1.
func TestTokens(t *testing.T) {
	checkTokens(t, "", "")
	checkTokens(t, " \t\r\n", "")
	checkTokens(t, "x1==2", "wsn", "x1", "==", "2")
	checkTokens(t, "a", "w", "a")
	checkTokens(t, "0", "n", "0")
	checkTokens(t, "a b", "ww", "a", "b")
	checkTokens(t, "a\tb\rc\nd\r\n e", "wwwww", "a", "b", "c", "d", "e")
	checkTokens(t, "  a  ", "w", "a")
	checkTokens(t, "a1_B2_", "w", "a1_B2_")
	checkTokens(t, "1a", "nw", "1", "a")
	checkTokens(t, "12ab34 56", "nwn", "12", "ab34", "56")
	checkTokens(t, "x=-1;", "wssns", "x", "=", "-", "1", ";")
	checkTokens(t, "!a&&!b||c", "swsswsw", "!", "a", "&&", "!", "b", "||", "c")
	checkTokens(t, "chan c[2] of 3 lossy copying;", "wwsnswnwws", "chan", "c", "[", "2", "]", "of", "3", "lossy", "copying", ";")
	checkTokens(t, "proc p*2{if x<1{send c x%2;}}", "wwsnswwsnswwwsnsss", "proc", "p", "*", "2", "{", "if", "x", "<", "1", "{", "send", "c", "x", "%", "2", ";", "}", "}")
}

// P8.1: where tokens begin, and of which kind they are.
func TestPlaces(t *testing.T) {
	s := "safe\n\tx1==20; // é\r\n!b"
	want := []api.Token{
		{Kind: api.TokWord, S: "safe", At: 0}, {Kind: api.TokWord, S: "x1", At: 6}, {Kind: api.TokSign, S: "==", At: 8}, {Kind: api.TokNum, S: "20", At: 10},
		{Kind: api.TokSign, S: ";", At: 12}, {Kind: api.TokSign, S: "!", At: 21}, {Kind: api.TokWord, S: "b", At: 22}, {Kind: api.TokEnd, S: "", At: 23},
	}
	if got, f := lex.Tokens(s); f != (api.Fault{}) || !slices.Equal(got, want) {
		t.Errorf("they are %v, %v, not %v", got, f, want)
	}
}

// P8.1: keywords are words, and words may be longer than names.
func TestWords(t *testing.T) {
	for _, k := range keywords() {
		checkTokens(t, k, "w", k)
		checkTokens(t, k+"_"+k+" "+k, "ww", k+"_"+k, k)
	}
	for _, s := range []string{letters, letters + digits + "_", "a__", "Z", "z9", "A_9", "abcdefghijklm", strings.Repeat("x", api.MaxText), "x" + strings.Repeat("1", api.MaxText-1)} {
		checkTokens(t, s, "w", s)
	}
	for i := range len(letters) {
		checkTokens(t, letters[i:i+1]+"1;", "ws", letters[i:i+1]+"1", ";")
	}
}

// P8.1: numbers have at most 6 digits; zeros count.
func TestNumbers(t *testing.T) {
	for _, s := range []string{"0", "9", "00", "000000", "000001", "123456", "999999"} {
		checkTokens(t, s, "n", s)
		checkTokens(t, s+"x", "nw", s, "x")
		checkTokens(t, "x "+s+"+"+s, "wnsn", "x", s, "+", s)
	}
	for i := range len(digits) {
		checkTokens(t, digits[i:i+1]+";", "ns", digits[i:i+1], ";")
	}
	checkTokens(t, "123456 7", "nn", "123456", "7")
	checkTokens(t, "123456//\n7", "nn", "123456", "7")
	checkTokens(t, "x1234567", "w", "x1234567")
	checkTokens(t, "// 1234567", "")
	for _, s := range []string{"1234567", "0000000", "0000001", "1000000", strings.Repeat("0", api.MaxText)} {
		checkFault(t, s, api.ErrLex, 0)
		checkFault(t, s[:7]+"x", api.ErrLex, 0)
		checkFault(t, "a = "+s[:7]+";", api.ErrLex, 4)
		checkFault(t, "1+"+s[:7], api.ErrLex, 2)
		checkFault(t, "123456 "+s[:7], api.ErrLex, 7)
	}
}

// P8.1: signs are as long as possible.
func TestSigns(t *testing.T) {
	for _, s := range signs() {
		checkTokens(t, s, "s", s)
		checkTokens(t, "a"+s+"1", "wsn", "a", s, "1")
		checkTokens(t, s+" "+s, "ss", s, s)
	}
	checkTokens(t, "===", "ss", "==", "=")
	checkTokens(t, "====", "ss", "==", "==")
	checkTokens(t, "= =", "ss", "=", "=")
	checkTokens(t, "=//\n=", "ss", "=", "=")
	checkTokens(t, "&&&&||||", "ssss", "&&", "&&", "||", "||")
	checkTokens(t, "!=<=", "ssss", "!", "=", "<", "=")
	checkTokens(t, "{}[]()<<--++**%%!!;;", strings.Repeat("s", 20), strings.Split("{}[]()<<--++**%%!!;;", "")...)
	for s, at := range map[string]int{"&": 0, "|": 0, "a&b": 1, "a|b": 1, "&&&": 2, "|||": 2, "a & & b": 2, "| |": 0, "&|": 0, "&&|": 2, "a&//\n&b": 1, "==&=": 2} {
		checkFault(t, s, api.ErrLex, at)
	}
}

// P8.1: // and everything up to the end of the line is a comment.
func TestComments(t *testing.T) {
	for _, s := range []string{"//", "//\n", "///", "// a & 1234567", "//\n//\n//", " // \n\t// ", "//\r//", "//a\r&", "// \xff\x00 é\n"} {
		checkTokens(t, s, "")
	}
	checkTokens(t, "a//b\nc", "ww", "a", "c")
	checkTokens(t, "a//b//c\nd", "ww", "a", "d")
	checkTokens(t, "a // b\r\nc", "ww", "a", "c")
	checkTokens(t, "a // b\rc\nd", "ww", "a", "d")
	checkTokens(t, "1//\n2//\n3", "nnn", "1", "2", "3")
	checkTokens(t, "a/ /b", "wssw", "a", "/", "/", "b")
	checkTokens(t, "a/\n/b", "wssw", "a", "/", "/", "b")
	checkTokens(t, "a/b///c\n/", "wsws", "a", "/", "b", "/")
	checkFault(t, "//&\n&", api.ErrLex, 4)
	checkFault(t, "/* & */", api.ErrLex, 3)
	checkFault(t, "a # b", api.ErrLex, 2)
	for b := range 256 {
		if c := string([]byte{byte(b)}); c != "\n" {
			checkTokens(t, "x//"+c+"y"+c+"\nz", "ww", "x", "z")
		}
	}
}

// P8.1: whatever byte there is, the first one with which no token begins is a fault.
func TestAnyByte(t *testing.T) {
	beginnings := letters + digits + blanks + "{}[]();=<+-*/%!"
	inWords := letters + digits + "_"
	for b := range 256 {
		c := string([]byte{byte(b)})
		for _, s := range []string{c, c + "a", "a" + c, "1" + c, c + c, "= " + c, c + "\n" + c + " 1234567", "//\n" + c, "a " + c + "=b", "==" + c} {
			checkPlain(t, s)
		}
		if !strings.Contains(beginnings, c) {
			checkFault(t, c, api.ErrLex, 0)
			checkFault(t, "x = 1; "+c+" 1234567", api.ErrLex, 7)
			checkFault(t, "1"+c, api.ErrLex, 1)
		}
		if strings.Contains(inWords, c) {
			checkTokens(t, "a"+c+"a", "w", "a"+c+"a")
		}
	}
	for _, s := range []string{"_", "_a", "é", "\u00a0", "\u2028", "\u0661", "\ufeffsafe 0;", "\v", "\f", "\x00", "\xff", ">", ",", ".", ":", "\"", "'", "^", "~", "?", "@", "$", "`", "\\"} {
		checkFault(t, s, api.ErrLex, 0)
		checkFault(t, "a1 "+s, api.ErrLex, 3)
	}
	checkFault(t, "1_0", api.ErrLex, 1)
	checkFault(t, "aé", api.ErrLex, 1)
}

// P8.1: the first of several faults.
func TestFirstFault(t *testing.T) {
	checkFault(t, "a & 1234567", api.ErrLex, 2)
	checkFault(t, "a 1234567 &", api.ErrLex, 2)
	checkFault(t, "1234567&", api.ErrLex, 0)
	checkFault(t, "&&&|", api.ErrLex, 2)
	checkFault(t, "// &\nok; ? & 1234567", api.ErrLex, 9)
}

// P8.1: a text that is too long is so first of all; its length counts bytes.
func TestBig(t *testing.T) {
	checkTokens(t, strings.Repeat(" ", api.MaxText-1)+"a", "w", "a")
	checkTokens(t, "a//"+strings.Repeat("é", api.MaxText/2-2)+"\n", "w", "a")
	checkTokens(t, strings.Repeat(";", api.MaxText), strings.Repeat("s", api.MaxText), strings.Split(strings.Repeat(";", api.MaxText), "")...)
	checkFault(t, strings.Repeat(" ", api.MaxText-1)+"&", api.ErrLex, api.MaxText-1)
	checkFault(t, strings.Repeat("&", api.MaxText-1)+"?", api.ErrLex, api.MaxText-2)
	for _, s := range []string{strings.Repeat(" ", api.MaxText+1), "&" + strings.Repeat("a", api.MaxText), strings.Repeat("1", api.MaxText+1), "//" + strings.Repeat("é", api.MaxText/2), strings.Repeat("&", 1<<20), strings.Repeat("\n", 1<<20)} {
		checkFault(t, s, api.ErrBig, 0)
	}
}

// P8.1: all short texts, and longer ones by chance, have the tokens that the chapter's words say.
func TestPlain(t *testing.T) {
	for size := range 6 {
		for _, s := range texts("a1_=&/\n ", size) {
			checkPlain(t, s)
		}
	}
	for size := range 5 {
		for _, s := range texts("Z0|!<\r\t/>", size) {
			checkPlain(t, s)
		}
	}
	pieces := append(append(signs(), keywords()...), " ", " ", "\n", "\r", "\t", "//", "_", "x", "B7", "0", "12", "999999")
	random := rand.New(rand.NewPCG(8, 1))
	for range 3000 {
		var b strings.Builder
		for range random.IntN(60) {
			b.WriteString(pieces[random.IntN(len(pieces))])
		}
		checkPlain(t, b.String())
		if random.IntN(4) == 0 {
			checkPlain(t, b.String()+"&"+b.String())
		}
	}
}

// P8.1: results are new memory, and calls do not know of each other.
func TestMemory(t *testing.T) {
	s := "a = 12; // b"
	first, _ := lex.Tokens(s)
	second, _ := lex.Tokens(s)
	for len(first) < cap(first) {
		first = append(first, api.Token{})
	}
	for i := range first {
		first[i] = api.Token{Kind: 9, S: "?", At: -1}
	}
	lex.Tokens("&")
	want, _ := plainTokens(s)
	if third, _ := lex.Tokens(s); !slices.Equal(second, want) || !slices.Equal(third, want) {
		t.Errorf("they are %v and %v, not %v", second, third, want)
	}
}
