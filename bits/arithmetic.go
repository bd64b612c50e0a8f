package bits

import (
	"slices"

	"weirgate/graph"
)

// Add returns the sum.
func Add(g *graph.Graph, a, b []int) []int {
	a, b = pair(g, a, b)
	result, _ := sum(g, a, b, never)
	return result
}

// Sub returns the difference.
func Sub(g *graph.Graph, a, b []int) []int {
	a, b = pair(g, a, b)
	result, _ := difference(g, a, b)
	return result
}

// Mul returns the product.
func Mul(g *graph.Graph, a, b []int) []int {
	a, b = pair(g, a, b)
	w := len(a)
	result := make([]int, w)
	for i := range w {
		high, _ := sum(g, result[i:], mask(g, b[i], a[:w-i]), never)
		result = append(result[:i], high...)
	}
	return result
}

// Div returns the quotient, truncated towards 0; 0 if b is 0.
func Div(g *graph.Graph, a, b []int) []int {
	a, b = pair(g, a, b)
	quotient, _ := divide(g, magnitude(g, a), magnitude(g, b))
	return mask(g, Some(g, b), turn(g, g.Xor(sign(a), sign(b)), quotient))
}

// Rem returns the remainder, with the sign of a; 0 if b is 0.
func Rem(g *graph.Graph, a, b []int) []int {
	a, b = pair(g, a, b)
	_, rest := divide(g, magnitude(g, a), magnitude(g, b))
	return mask(g, Some(g, b), turn(g, sign(a), rest))
}

// sum returns the bits of a + b + carry, and what is carried out of the last one.
func sum(g *graph.Graph, a, b []int, carry int) ([]int, int) {
	result := make([]int, len(a))
	for i := range result {
		one := g.Xor(a[i], b[i])
		result[i] = g.Xor(one, carry)
		carry = g.Or(g.And(a[i], b[i]), g.And(one, carry))
	}
	return result, carry
}

// difference returns the bits of a - b, and whether b, without signs, is at most a.
func difference(g *graph.Graph, a, b []int) ([]int, int) {
	negated := make([]int, len(b))
	for i, e := range b {
		negated[i] = graph.Not(e)
	}
	return sum(g, a, negated, always)
}

// divide returns the quotient and the remainder of two numbers without signs by long division; nothing in particular if b is 0. The rest never has more bits than were taken from a so far: with more of them b is greater, and only the others are subtracted.
func divide(g *graph.Graph, a, b []int) (quotient, rest []int) {
	w := len(a)
	quotient = make([]int, w)
	highest := slices.Clone(b)
	slices.Reverse(highest) // as the highest bits come first, each Any continues that of fewer of them
	for taken := range w {
		i := w - 1 - taken
		rest = slices.Insert(rest, 0, a[i])
		less, enough := difference(g, rest, b[:taken+1])
		quotient[i] = g.And(enough, graph.Not(g.Any(highest[:i]...)))
		for j := range rest {
			rest[j] = g.Mux(quotient[i], less[j], rest[j])
		}
	}
	return quotient, rest
}

// magnitude returns a number as one without a sign; so even that of the least number fits.
func magnitude(g *graph.Graph, v []int) []int {
	return turn(g, sign(v), v)
}

// turn returns -v if c is true, and otherwise v.
func turn(g *graph.Graph, c int, v []int) []int {
	flipped := make([]int, len(v))
	for i, e := range v {
		flipped[i] = g.Xor(c, e)
	}
	result, _ := sum(g, flipped, make([]int, len(v)), c)
	return result
}

// mask returns v if c is true, and otherwise 0.
func mask(g *graph.Graph, c int, v []int) []int {
	result := make([]int, len(v))
	for i, e := range v {
		result[i] = g.And(c, e)
	}
	return result
}

// sign returns the last edge of a vector.
func sign(v []int) int {
	return v[len(v)-1]
}
