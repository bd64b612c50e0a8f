package clause

import (
	"slices"
	"strconv"
	"strings"

	"weirgate/api"
)

const (
	maxBytes    = 100000 // of a text
	maxDigits   = 6      // of a number in a text
	headerWords = 4      // p, cnf, and two numbers
)

// Show returns the text of cs; "" if a clause is not valid.
func Show(cs [][]int) string {
	if slices.ContainsFunc(cs, func(c []int) bool { return !Right(c) }) {
		return ""
	}
	var b strings.Builder
	b.WriteString("p cnf " + strconv.Itoa(Greatest(cs)) + " " + strconv.Itoa(len(cs)) + "\n")
	for _, c := range cs {
		for _, n := range c {
			b.WriteString(strconv.Itoa(n) + " ")
		}
		b.WriteString("0\n")
	}
	return b.String()
}

// Parse returns the clauses of a text, or ErrBig or ErrParse.
func Parse(s string) ([][]int, api.Errno) {
	if len(s) > maxBytes {
		return nil, api.ErrBig
	}
	ws := words(s)
	vars, count, ok := header(ws)
	if !ok {
		return nil, api.ErrParse
	}
	cs, ok := clauses(ws[headerWords:], vars)
	if !ok || len(cs) != count {
		return nil, api.ErrParse
	}
	return cs, api.OK
}

// words leaves out whole lines before it divides the others: a word never goes on behind a line feed.
func words(s string) []string {
	var ws []string
	for _, line := range strings.Split(s, "\n") {
		if !strings.HasPrefix(line, "c") {
			ws = append(ws, strings.FieldsFunc(line, isSeparator)...)
		}
	}
	return ws
}

// isSeparator knows fewer separators than package unicode: a form feed, for one, belongs to a word.
func isSeparator(r rune) bool {
	return r == ' ' || r == '\t' || r == '\r' || r == '\n'
}

// header returns the greatest variable and the number of clauses that the first words state.
func header(ws []string) (int, int, bool) {
	if len(ws) < headerWords || ws[0] != "p" || ws[1] != "cnf" {
		return 0, 0, false
	}
	vars, varsOK := number(ws[2])
	count, countOK := number(ws[3])
	return vars, count, varsOK && countOK
}

// clauses returns those of the words behind the header; false, if one is wrong or the last one has no end.
func clauses(ws []string, vars int) ([][]int, bool) {
	var cs [][]int
	var c []int
	open := false
	for _, w := range ws {
		n, ok := entry(w)
		if !ok || variable(n) > vars {
			return nil, false
		}
		open = n != 0
		if open {
			c = append(c, n)
			continue
		}
		cs = append(cs, c)
		c = nil
	}
	return cs, !open
}

// entry returns the literal that w is, or 0 for the end of a clause.
func entry(w string) (int, bool) {
	digits, negative := strings.CutPrefix(w, "-")
	n, ok := number(digits)
	if !ok || n > api.MaxVar || negative && n == 0 {
		return 0, false
	}
	if negative {
		return -n, true
	}
	return n, true
}

// number keeps to plain digits: strconv would also take a plus sign.
func number(w string) (int, bool) {
	if w == "" || len(w) > maxDigits {
		return 0, false
	}
	n := 0
	for _, r := range w {
		if r < '0' || r > '9' {
			return 0, false
		}
		n = 10*n + int(r-'0')
	}
	return n, true
}
