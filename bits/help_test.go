package bits_test

import (
	"math"
	"slices"
	"testing"

	"weirgate/api"
	"weirgate/bits"
	"weirgate/graph"
)

// wrap returns the number of w bits that n stands for, step by step.
func wrap(n, w int) int {
	whole := 1 << w
	for n >= whole/2 {
		n -= whole
	}
	for n < -whole/2 {
		n += whole
	}
	return n
}

// numbers returns all numbers of w bits.
func numbers(w int) []int {
	var all []int
	for n := -1 << (w - 1); n < 1<<(w-1); n++ {
		all = append(all, n)
	}
	return all
}

// digits returns the bits of a number of w bits, the lowest first.
func digits(n, w int) []bool {
	if n < 0 {
		n += 1 << w
	}
	var bs []bool
	for range w {
		bs = append(bs, n%2 == 1)
		n /= 2
	}
	return bs
}

// number returns the number that bits represent.
func number(bs []bool) int {
	n := 0
	for i, b := range bs {
		switch {
		case b && i == len(bs)-1:
			n -= 1 << i
		case b:
			n += 1 << i
		}
	}
	return n
}

// read returns the value of a vector in a model.
func read(g *graph.Graph, model []bool, v []int) int {
	return number(g.Eval(model, v...))
}

// constant returns a vector of a number of w bits.
func constant(n, w int) []int {
	var v []int
	for _, b := range digits(n, w) {
		if b {
			v = append(v, 1)
		} else {
			v = append(v, 0)
		}
	}
	return v
}

// inputs returns a vector of new inputs.
func inputs(g *graph.Graph, w int) []int {
	var v []int
	for range w {
		v = append(v, g.Input())
	}
	return v
}

// operation is one of two vectors whose result is a vector: what it makes, and its result, which may not fit.
type operation struct {
	name   string
	vector func(g *graph.Graph, a, b []int) []int
	result func(a, b int) int
}

func operations() []operation {
	return []operation{
		{"Add", bits.Add, func(a, b int) int { return a + b }},
		{"Sub", bits.Sub, func(a, b int) int { return a - b }},
		{"Mul", bits.Mul, func(a, b int) int { return a * b }},
		{"Div", bits.Div, quotient},
		{"Rem", bits.Rem, remainder},
		{"Mux of true", func(g *graph.Graph, a, b []int) []int { return bits.Mux(g, 1, a, b) }, func(a, b int) int { return a }},
		{"Mux of false", func(g *graph.Graph, a, b []int) []int { return bits.Mux(g, 0, a, b) }, func(a, b int) int { return b }},
	}
}

// quotient returns how often the size of b fits in that of a, with the sign; 0 if b is 0.
func quotient(a, b int) int {
	if b == 0 {
		return 0
	}
	count, rest := 0, max(a, -a)
	for rest >= max(b, -b) {
		rest -= max(b, -b)
		count++
	}
	if (a < 0) != (b < 0) {
		return -count
	}
	return count
}

// remainder returns what quotient leaves of a; 0 if b is 0.
func remainder(a, b int) int {
	if b == 0 {
		return 0
	}
	return a - b*quotient(a, b)
}

// question is one about two vectors whose result is an edge.
type question struct {
	name   string
	edge   func(g *graph.Graph, a, b []int) int
	result func(a, b int) bool
}

func questions() []question {
	return []question{
		{"Same", bits.Same, func(a, b int) bool { return a == b }},
		{"Less", bits.Less, func(a, b int) bool { return a < b }},
		{"Some", func(g *graph.Graph, a, b []int) int { return bits.Some(g, a) }, func(a, b int) bool { return a != 0 }},
		{"Some of the other", func(g *graph.Graph, a, b []int) int { return bits.Some(g, b) }, func(a, b int) bool { return b != 0 }},
	}
}

// results are those of all operations and questions for two vectors.
type results struct {
	vectors [][]int
	edges   []int
}

func ask(g *graph.Graph, a, b []int) results {
	var r results
	for _, o := range operations() {
		r.vectors = append(r.vectors, o.vector(g, a, b))
	}
	for _, q := range questions() {
		r.edges = append(r.edges, q.edge(g, a, b))
	}
	return r
}

// checkVectors compares the vectors, of w bits, with the results for two numbers.
func (r results) checkVectors(t *testing.T, g *graph.Graph, model []bool, a, b, w int) {
	t.Helper()
	for i, o := range operations() {
		if got := read(g, model, r.vectors[i]); len(r.vectors[i]) != w || got != wrap(o.result(a, b), w) {
			t.Errorf("%s(%d, %d) is %d of %d bits, not %d of %d", o.name, a, b, got, len(r.vectors[i]), wrap(o.result(a, b), w), w)
		}
	}
}

// checkEdges compares the edges with the results for two numbers.
func (r results) checkEdges(t *testing.T, g *graph.Graph, model []bool, a, b int) {
	t.Helper()
	for i, q := range questions() {
		if got := g.Eval(model, r.edges[i])[0]; got != q.result(a, b) {
			t.Errorf("%s(%d, %d) is %v", q.name, a, b, got)
		}
	}
}

// all returns all edges of all results.
func (r results) all() []int {
	return slices.Concat(slices.Concat(r.vectors...), r.edges)
}

// checkBelong looks whether edges belong to the graph.
func checkBelong(t *testing.T, g *graph.Graph, es []int) {
	t.Helper()
	for _, e := range es {
		if e < 0 || e/2 >= g.Nodes() {
			t.Errorf("the edge %d does not belong to a graph with %d nodes", e, g.Nodes())
		}
	}
}

// noVectors returns lists that are no vectors.
func noVectors() [][]int {
	return [][]int{nil, {}, slices.Repeat([]int{1}, api.MaxWidth+1), slices.Repeat([]int{1}, 100), slices.Repeat([]int{2, 0, 1}, 6)}
}

// strangers returns edges that do not belong to the graph: its next ones, too.
func strangers(g *graph.Graph) []int {
	next := 2 * g.Nodes()
	return []int{-1, -2, next, next + 1, next + 2, next + 5, next + 8, next + 11, 1 << 32, 1<<32 + 1, math.MaxInt, math.MaxInt - 1, math.MinInt, math.MinInt + 1}
}
