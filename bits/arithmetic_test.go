package bits_test

import (
	"math/rand/v2"
	"slices"
	"testing"

	"weirgate/api"
	"weirgate/bits"
	"weirgate/graph"
)

// P6.2: the examples, and the edges that the chapter names.
func TestArithmetic(t *testing.T) {
	g := graph.New()
	for _, c := range []struct{ a, b, w, sum, difference, product, quotient, rest int }{
		{7, 1, 4, -8, 6, 7, 7, 0},
		{-7, 2, 4, -5, 7, 2, -3, -1},
		{7, -2, 4, 5, -7, 2, -3, 1},
		{-7, -2, 4, 7, -5, -2, 3, -1},
		{-8, -1, 4, 7, -7, -8, -8, 0},
		{-8, 1, 4, -7, 7, -8, -8, 0},
		{-8, -8, 4, 0, 0, 0, 1, 0},
		{7, -8, 4, -1, -1, -8, 0, 7},
		{-8, 7, 4, -1, 1, -8, -1, -1},
		{5, 0, 4, 5, 5, 0, 0, 0},
		{-8, 0, 4, -8, -8, 0, 0, 0},
		{0, 0, 4, 0, 0, 0, 0, 0},
		{0, -3, 4, -3, 3, 0, 0, 0},
		{-1, -1, 1, 0, 0, -1, -1, 0},
		{0, -1, 1, -1, -1, 0, 0, 0},
		{-1, 0, 1, -1, -1, 0, 0, 0},
		{-2, -1, 2, 1, -1, -2, -2, 0},
		{100, 100, 8, -56, 0, 16, 1, 0},
		{-128, -1, 8, 127, -127, -128, -128, 0},
		{-128, 3, 8, -125, 125, -128, -42, -2},
		{-32768, -1, 16, 32767, -32767, -32768, -32768, 0},
		{32767, -32768, 16, -1, -1, -32768, 0, 32767},
		{30000, -7, 16, 29993, 30007, -13392, -4285, 5},
	} {
		a, b := constant(c.a, c.w), constant(c.b, c.w)
		got := []int{read(g, nil, bits.Add(g, a, b)), read(g, nil, bits.Sub(g, a, b)), read(g, nil, bits.Mul(g, a, b)), read(g, nil, bits.Div(g, a, b)), read(g, nil, bits.Rem(g, a, b))}
		if want := []int{c.sum, c.difference, c.product, c.quotient, c.rest}; !slices.Equal(got, want) {
			t.Errorf("of %d and %d with %d bits the results are %v, not %v", c.a, c.b, c.w, got, want)
		}
	}
}

// P6.2 and P6.3: all numbers of few bits, of each two widths.
func TestAllNumbers(t *testing.T) {
	for v := 1; v <= 4; v++ {
		for w := 1; w <= 4; w++ {
			g := graph.New()
			r := ask(g, inputs(g, v), inputs(g, w))
			checkBelong(t, g, r.all())
			for _, a := range numbers(v) {
				for _, b := range numbers(w) {
					model := slices.Concat(digits(a, v), digits(b, w))
					r.checkVectors(t, g, model, a, b, max(v, w))
					r.checkEdges(t, g, model, a, b)
				}
			}
		}
	}
}

// P6.2 and P6.3: constants alone need no nodes.
func TestConstants(t *testing.T) {
	g := graph.New()
	for _, w := range []int{1, 2, 5} {
		for _, a := range numbers(w) {
			for _, b := range numbers(w) {
				r := ask(g, constant(a, w), constant(b, w))
				r.checkVectors(t, g, nil, a, b, w)
				r.checkEdges(t, g, nil, a, b)
			}
		}
	}
	if g.Nodes() != 1 {
		t.Errorf("there are %d nodes", g.Nodes())
	}
}

// P6.2 and P6.3: a constant and inputs, in either order.
func TestConstantAndInputs(t *testing.T) {
	g := graph.New()
	x := inputs(g, 4)
	for _, w := range []int{1, 3, 4, 5} {
		for _, n := range numbers(w) {
			first, second := ask(g, constant(n, w), x), ask(g, x, constant(n, w))
			for _, m := range numbers(4) {
				model := digits(m, 4)
				first.checkVectors(t, g, model, n, m, max(w, 4))
				first.checkEdges(t, g, model, n, m)
				second.checkVectors(t, g, model, m, n, max(w, 4))
				second.checkEdges(t, g, model, m, n)
			}
		}
	}
}

// P6.2 and P6.3: one vector twice, and one with edges that occur again.
func TestRelatedVectors(t *testing.T) {
	g := graph.New()
	x := inputs(g, 5)
	twice := ask(g, x, x)
	turned := []int{graph.Not(x[4]), x[0], x[0], 1, graph.Not(x[1])}
	other := ask(g, x, turned)
	for _, n := range numbers(5) {
		model := digits(n, 5)
		twice.checkVectors(t, g, model, n, n, 5)
		twice.checkEdges(t, g, model, n, n)
		other.checkVectors(t, g, model, n, read(g, model, turned), 5)
		other.checkEdges(t, g, model, n, read(g, model, turned))
	}
}

// P6.2 and P6.3: up to the greatest width.
func TestManyBits(t *testing.T) {
	random := rand.New(rand.NewPCG(6, 2))
	pick := func(w int) int {
		all := []int{0, 1, -1, -1 << (w - 1), 1<<(w-1) - 1, random.IntN(1<<w) - 1<<(w-1), random.IntN(1<<w) - 1<<(w-1), random.IntN(8) - 4}
		return wrap(all[random.IntN(len(all))], w)
	}
	for _, c := range [][2]int{{16, 16}, {16, 8}, {3, 16}, {8, 8}, {1, 16}, {16, 1}, {9, 12}, {15, 15}, {7, 6}} {
		v, w := c[0], c[1]
		g := graph.New()
		r := ask(g, inputs(g, v), inputs(g, w))
		for range 150 {
			a, b := pick(v), pick(w)
			model := slices.Concat(digits(a, v), digits(b, w))
			r.checkVectors(t, g, model, a, b, max(v, w))
			r.checkEdges(t, g, model, a, b)
		}
	}
}

// P6.2: by an edge that is no constant.
func TestMux(t *testing.T) {
	for _, c := range [][2]int{{3, 3}, {1, 3}, {3, 2}} {
		g := graph.New()
		x, y, by := inputs(g, c[0]), inputs(g, c[1]), g.Input()
		v, negated := bits.Mux(g, by, x, y), bits.Mux(g, graph.Not(by), x, y)
		if len(v) != 3 || len(negated) != 3 {
			t.Errorf("of %d and %d bits: %d and %d", c[0], c[1], len(v), len(negated))
		}
		for _, a := range numbers(c[0]) {
			for _, b := range numbers(c[1]) {
				model := slices.Concat(digits(a, c[0]), digits(b, c[1]))
				yes, no := append(slices.Clone(model), true), append(slices.Clone(model), false)
				got := []int{read(g, yes, v), read(g, no, v), read(g, yes, negated), read(g, no, negated)}
				if !slices.Equal(got, []int{a, b, b, a}) {
					t.Errorf("Mux of %d and %d is %v", a, b, got)
				}
			}
		}
	}
}

// P6.2: with edges that do not belong to the graph, also where the call itself makes nodes of such numbers.
func TestMuxByStranger(t *testing.T) {
	for i := range strangers(graph.New()) {
		g := graph.New()
		x, y := inputs(g, 3), inputs(g, 3)
		s := strangers(g)[i]
		if got := bits.Mux(g, s, x, y); !slices.Equal(got, y) {
			t.Errorf("Mux by %d is %v, not %v", s, got, y)
		}
	}
}

// P6.1 to P6.3: a list that is not a vector counts as the one with one false edge.
func TestNoVectors(t *testing.T) {
	g := graph.New()
	x := inputs(g, 3)
	by := g.Input()
	for _, v := range noVectors() {
		for _, other := range [][]int{x, {1}, {0, 1}, {0}} {
			first, second := ask(g, v, other), ask(g, other, v)
			for _, n := range numbers(3) {
				model := digits(n, 3)
				m := read(g, model, other)
				first.checkVectors(t, g, model, 0, m, len(other))
				first.checkEdges(t, g, model, 0, m)
				second.checkVectors(t, g, model, m, 0, len(other))
				second.checkEdges(t, g, model, m, 0)
			}
		}
		for _, w := range noVectors() {
			r := ask(g, v, w)
			r.checkVectors(t, g, nil, 0, 0, 1)
			r.checkEdges(t, g, nil, 0, 0)
			if got := bits.Mux(g, by, v, w); !slices.Equal(got, []int{0}) {
				t.Errorf("Mux of %v and %v is %v", v, w, got)
			}
		}
	}
}

// P6.2 and P6.3: an edge that does not belong to the graph counts as false, also where the call itself makes nodes of such numbers.
func TestStrangersAreFalse(t *testing.T) {
	calls := []func(g *graph.Graph, a, b []int) []int{
		func(g *graph.Graph, a, b []int) []int { return bits.Mux(g, 2, a, b) },
		func(g *graph.Graph, a, b []int) []int { return bits.Mux(g, 3, a, b) },
	}
	for _, o := range operations() {
		calls = append(calls, o.vector)
	}
	for _, q := range questions() {
		calls = append(calls, func(g *graph.Graph, a, b []int) []int { return []int{q.edge(g, a, b)} })
	}
	for i := range strangers(graph.New()) {
		for k, call := range calls {
			for place := range 6 {
				g := graph.New()
				x := inputs(g, 6)
				plain := slices.Clone(x)
				x[place], plain[place] = strangers(g)[i], 0
				got := call(g, x[:3], x[3:])
				checkBelong(t, g, got)
				want := call(g, plain[:3], plain[3:])
				if !slices.Equal(got, want) {
					t.Errorf("call %d with %v is %v, not %v", k, x, got, want)
				}
			}
		}
	}
}

// P6.3: in a full graph, of whose edges nothing else is promised.
func TestFullGraph(t *testing.T) {
	for spare := range 20 {
		g := graph.New()
		x, y := inputs(g, 5), inputs(g, 4)
		for g.Nodes() < api.MaxNodes-spare {
			g.Input()
		}
		r := ask(g, x, y)
		checkBelong(t, g, r.all())
		checkBelong(t, g, bits.Inputs(g, 16))
		if v := bits.Inputs(g, 7); g.Nodes() != api.MaxNodes || !slices.Equal(v, make([]int, 7)) {
			t.Errorf("of %d nodes the inputs are %v", g.Nodes(), v)
		}
		for i, v := range r.vectors {
			if len(v) != 5 {
				t.Errorf("vector %d has %d bits", i, len(v))
			}
		}
	}
}

// No function panics, whatever it is given; so says the document of all.
func TestGraphsOfNobody(t *testing.T) {
	for _, g := range []*graph.Graph{nil, {}} {
		for _, v := range append(noVectors(), []int{1}, []int{2, -1, 5}, slices.Repeat([]int{3}, 16)) {
			ask(g, v, []int{1, 0, 1})
			ask(g, []int{4, 3, 1}, v)
			bits.Mux(g, 2, v, v)
			bits.Mux(g, -2, v, []int{1, 1})
			if len(bits.Inputs(g, 3)) != 3 {
				t.Error("there are not 3 inputs")
			}
		}
	}
}
