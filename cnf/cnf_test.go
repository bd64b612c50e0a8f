package cnf_test

import (
	"math"
	"slices"
	"testing"

	"weirgate/api"
	"weirgate/cnf"
	"weirgate/graph"
)

// P7.1.
func TestNew(t *testing.T) {
	if m := cnf.New(nil); m != nil {
		t.Errorf("a maker for no graph is %v", m)
	}
	g, xs := withInputs(2)
	g.And(xs[0], xs[1])
	for _, g := range []*graph.Graph{graph.New(), g} {
		m := cnf.New(g)
		if m == nil || m.Vars() != 1 {
			t.Fatalf("a new maker is %v", m)
		}
		checkTake(t, m, []int{-1})
		if m.Vars() != 1 {
			t.Errorf("then there are %d variables", m.Vars())
		}
	}
}

// P7.1: the chapter's example.
func TestExample(t *testing.T) {
	g, xs := withInputs(2)
	m := cnf.New(g)
	if l := m.Lit(g.And(xs[0], xs[1])); l != 4 || m.Vars() != 4 {
		t.Errorf("the literal is %d, of %d variables", l, m.Vars())
	}
	checkLits(t, m, [2]int{xs[0], 2}, [2]int{xs[1], 3})
	checkTake(t, m, []int{-1}, []int{-4, 2}, []int{-4, 3}, []int{4, -2, -3})
}

// P7.1: edges of one node have one variable, whichever is asked for first, and an input has no clauses.
func TestLit(t *testing.T) {
	g, xs := withInputs(3)
	m := cnf.New(g)
	checkTake(t, m, []int{-1})
	checkLits(t, m, [2]int{0, 1}, [2]int{1, -1}, [2]int{0, 1})
	if m.Vars() != 1 {
		t.Errorf("node 0 has another variable: there are %d", m.Vars())
	}
	x, y, z := xs[0], xs[1], xs[2]
	checkLits(t, m, [2]int{graph.Not(z), -2}, [2]int{z, 2}, [2]int{x, 3}, [2]int{graph.Not(x), -3}, [2]int{y, 4}, [2]int{z, 2})
	if m.Vars() != 4 {
		t.Errorf("there are %d variables", m.Vars())
	}
	checkTake(t, m)
}

// P7.1: an and with the literals of its edges, for each of their signs.
func TestAnd(t *testing.T) {
	for _, c := range []struct{ a, b, p, q int }{{2, 4, 2, 3}, {3, 4, -2, 3}, {2, 5, 2, -3}, {3, 5, -2, -3}} {
		g, _ := withInputs(2)
		e := g.And(c.b, c.a)
		m := cnf.New(g)
		checkTake(t, m, []int{-1})
		checkLits(t, m, [2]int{graph.Not(e), -4}, [2]int{e, 4})
		checkTake(t, m, []int{-4, c.p}, []int{-4, c.q}, []int{4, -c.p, -c.q})
	}
}

// P7.1: first the nodes of the lesser edge of an and, then those of the greater one, then the and; each node once.
func TestOrder(t *testing.T) {
	g, xs := withInputs(4)
	x, y, z, w := xs[0], xs[1], xs[2], xs[3]
	a := g.And(z, w)                       // node 5
	b := g.And(x, graph.Not(a))            // node 6
	c := g.And(graph.Not(a), y)            // node 7
	d := g.And(graph.Not(c), b)            // node 8
	e := g.And(graph.Not(d), graph.Not(w)) // node 9
	m := cnf.New(g)
	checkTake(t, m, []int{-1})
	// w 2; then, for d: x 3, z 4, a 5, b 6, y 7, c 8, d 9; e 10
	checkLits(t, m, [2]int{e, 10})
	if m.Vars() != 10 {
		t.Errorf("there are %d variables", m.Vars())
	}
	checkTake(t, m,
		[]int{-5, 4}, []int{-5, 2}, []int{5, -4, -2},
		[]int{-6, 3}, []int{-6, -5}, []int{6, -3, 5},
		[]int{-8, 7}, []int{-8, -5}, []int{8, -7, 5},
		[]int{-9, 6}, []int{-9, -8}, []int{9, -6, 8},
		[]int{-10, -2}, []int{-10, -9}, []int{10, 2, 9},
	)
	checkLits(t, m, [2]int{w, 2}, [2]int{x, 3}, [2]int{z, 4}, [2]int{a, 5}, [2]int{b, 6}, [2]int{y, 7}, [2]int{c, 8}, [2]int{graph.Not(d), -9}, [2]int{graph.Not(e), -10})
	checkTake(t, m)
}

// P7.1: only what is needed, as it is needed.
func TestNeeded(t *testing.T) {
	g, xs := withInputs(5)
	a, b := g.And(xs[0], xs[1]), g.And(xs[2], xs[3])
	c := g.And(a, b)
	m := cnf.New(g)
	checkLits(t, m, [2]int{b, 4})
	if m.Vars() != 4 {
		t.Errorf("there are %d variables", m.Vars())
	}
	checkTake(t, m, []int{-1}, []int{-4, 2}, []int{-4, 3}, []int{4, -2, -3})
	checkLits(t, m, [2]int{xs[1], 5})
	checkTake(t, m)
	checkLits(t, m, [2]int{graph.Not(c), -8})
	if m.Vars() != 8 {
		t.Errorf("then there are %d variables", m.Vars())
	}
	checkTake(t, m, []int{-7, 6}, []int{-7, 5}, []int{7, -6, -5}, []int{-8, 7}, []int{-8, 4}, []int{8, -7, -4})
	checkLits(t, m, [2]int{a, 7}, [2]int{xs[0], 6}, [2]int{b, 4})
	if m.Vars() != 8 {
		t.Errorf("in the end there are %d variables", m.Vars())
	}
	checkTake(t, m)
}

// P7.1: what was not taken waits for the next Take.
func TestTake(t *testing.T) {
	g, xs := withInputs(3)
	a, b := g.And(xs[0], xs[1]), g.And(graph.Not(xs[0]), xs[2])
	m := cnf.New(g)
	m.Lit(a)
	m.Lit(a)
	m.Lit(b)
	checkTake(t, m, []int{-1}, []int{-4, 2}, []int{-4, 3}, []int{4, -2, -3}, []int{-6, -2}, []int{-6, 5}, []int{6, 2, -5})
	m.Lit(a)
	m.Lit(b)
	checkTake(t, m)
}

// P7.1: the literal of an edge that does not belong to the graph is that of edge 0, even if its number is odd.
func TestStrangers(t *testing.T) {
	g, xs := withInputs(2)
	m := cnf.New(g)
	m.Lit(g.And(xs[0], xs[1]))
	m.Take()
	for _, s := range strangers(g) {
		if l := m.Lit(s); l != 1 || m.Vars() != 4 {
			t.Errorf("Lit(%d) is %d, of %d variables", s, l, m.Vars())
		}
		if cs := m.Take(); len(cs) != 0 {
			t.Errorf("Lit(%d) has the clauses %v", s, cs)
		}
	}
	empty := cnf.New(graph.New())
	for _, s := range strangers(graph.New()) {
		if l := empty.Lit(s); l != 1 || empty.Vars() != 1 {
			t.Errorf("without inputs Lit(%d) is %d, of %d variables", s, l, empty.Vars())
		}
	}
	checkTake(t, empty, []int{-1})
}

// P7.3: the graph may grow: an edge belongs to it from then on.
func TestGrow(t *testing.T) {
	g, xs := withInputs(1)
	x := xs[0]
	m := cnf.New(g)
	checkLits(t, m, [2]int{4, 1}, [2]int{5, 1}, [2]int{x, 2})
	y := g.Input()
	checkLits(t, m, [2]int{6, 1}, [2]int{5, -3}, [2]int{4, 3})
	a := g.And(x, graph.Not(y))
	checkTake(t, m, []int{-1})
	checkLits(t, m, [2]int{7, -4}, [2]int{a, 4})
	checkTake(t, m, []int{-4, 2}, []int{-4, -3}, []int{4, -2, 3})
	z := g.Input()
	b := g.And(a, z)
	checkLits(t, m, [2]int{b, 6}, [2]int{z, 5}, [2]int{a, 4})
	checkTake(t, m, []int{-6, 4}, []int{-6, 5}, []int{6, -4, -5})
	if in := m.Inputs([]bool{false, true, false, true, true, true}); !slices.Equal(in, []bool{true, false, true}) {
		t.Errorf("the inputs are %v", in)
	}
}

// P7.2.
func TestInputs(t *testing.T) {
	g, xs := withInputs(3)
	w := g.And(xs[2], graph.Not(xs[0]))
	last := g.Input()
	m := cnf.New(g)
	if in := m.Inputs([]bool{true, true, true, true, true, true}); !slices.Equal(in, make([]bool, 4)) {
		t.Errorf("of no needed ones: %v", in)
	}
	m.Lit(last) // 2
	m.Lit(w)    // its inputs 3, 4, and 5
	for _, c := range []struct{ model, want []bool }{
		{[]bool{false, true, false, false, false}, []bool{false, false, false, true}},
		{[]bool{false, false, true, false, false}, []bool{true, false, false, false}},
		{[]bool{false, false, false, true, true}, []bool{false, false, true, false}},
		{[]bool{false, true, true, true, false}, []bool{true, false, true, true}},
		{[]bool{false, true, false, true, true, true, true, true}, []bool{false, false, true, true}},
		// variables beyond a model are false
		{[]bool{true, true, true}, []bool{true, false, false, true}},
		{[]bool{true, true}, []bool{false, false, false, true}},
		{[]bool{true}, make([]bool, 4)},
		{nil, make([]bool, 4)},
	} {
		if in := m.Inputs(c.model); !slices.Equal(in, c.want) {
			t.Errorf("Inputs(%v) are %v, not %v", c.model, in, c.want)
		}
	}
	if m.Vars() != 5 {
		t.Errorf("then there are %d variables", m.Vars())
	}
	checkTake(t, m, []int{-1}, []int{-5, -3}, []int{-5, 4}, []int{5, 3, -4})
	if in := cnf.New(graph.New()).Inputs([]bool{true, true}); len(in) != 0 {
		t.Errorf("of a graph without inputs: %v", in)
	}
}

// P7.1: makers for one graph know nothing of each other, and do not change it.
func TestTwoMakers(t *testing.T) {
	g, xs := withInputs(2)
	a := g.And(xs[0], xs[1])
	m, n := cnf.New(g), cnf.New(g)
	checkLits(t, m, [2]int{xs[1], 2}, [2]int{a, 4})
	checkLits(t, n, [2]int{a, 4}, [2]int{xs[1], 3})
	checkTake(t, m, []int{-1}, []int{-4, 3}, []int{-4, 2}, []int{4, -3, -2})
	checkTake(t, n, []int{-1}, []int{-4, 2}, []int{-4, 3}, []int{4, -2, -3})
	h, ys := withInputs(1)
	checkLits(t, cnf.New(h), [2]int{ys[0], 2}, [2]int{a, 1})
	if p, q, ok := g.Node(a / 2); p != xs[0] || q != xs[1] || !ok || g.Nodes() != 4 || !slices.Equal(g.Inputs(), xs) {
		t.Errorf("the graph has changed: %d nodes", g.Nodes())
	}
}

// P7.1: of a full graph that is as deep as one can be; there are more variables than a solver has.
func TestDeepGraph(t *testing.T) {
	g, xs := withInputs(2)
	e := xs[1]
	for n := 3; n < api.MaxNodes; n++ {
		e = g.And(graph.Not(e), xs[1-n%2])
	}
	m := cnf.New(g)
	if l := m.Lit(graph.Not(e)); l != -api.MaxNodes || m.Vars() != api.MaxNodes {
		t.Fatalf("the literal is %d, of %d variables", l, m.Vars())
	}
	if l := m.Lit(g.And(graph.Not(e), xs[0])); l != 1 {
		t.Errorf("the literal of an and for which there is no room is %d", l)
	}
	cs := m.Take()
	if len(cs) != 1+3*(api.MaxNodes-3) {
		t.Errorf("there are %d clauses", len(cs))
	}
	model := make([]bool, api.MaxNodes)
	for _, in := range [][]bool{{false, false}, {true, false}, {false, true}, {true, true}} {
		es := make([]int, api.MaxNodes)
		for n := range es {
			es[n] = 2 * n
		}
		for n, value := range g.Eval(in, es...) {
			model[m.Lit(2*n)-1] = value
		}
		if !holds(cs, model) || !slices.Equal(m.Inputs(model), in) {
			t.Errorf("with the inputs %v the values are no model", in)
		}
	}
}

// P7.1 and P7.2: results are new memory, and the argument is not changed.
func TestMemory(t *testing.T) {
	g, xs := withInputs(3)
	m := cnf.New(g)
	m.Lit(g.And(xs[0], xs[1]))
	first := m.Take()
	for i, c := range first {
		for j := range c[:cap(c)] {
			c[:cap(c)][j] = i
		}
	}
	for i, c := range first {
		if !slices.Equal(c, slices.Repeat([]int{i}, len(c))) {
			t.Errorf("clause %d shares memory with another one: %v", i, c)
		}
	}
	clear(first[:cap(first)])
	m.Lit(g.And(xs[0], graph.Not(xs[2])))
	second := m.Take()
	clear(first[:cap(first)])
	if want := [][]int{{-6, 2}, {-6, -5}, {6, -2, 5}}; !same(second, want) {
		t.Errorf("the clauses are %v, not %v", second, want)
	}
	clear(second[:cap(second)])
	checkLits(t, m, [2]int{xs[0], 2}, [2]int{xs[2], 5}, [2]int{0, 1})
	if m.Vars() != 6 {
		t.Errorf("there are %d variables", m.Vars())
	}
	whole := []bool{true, true, false, true, true, true, true}
	in := m.Inputs(whole[:4])
	again := m.Inputs(whole[:4])
	for i := range in[:cap(in)] {
		in[:cap(in)][i] = true
	}
	if !slices.Equal(again, []bool{true, false, false}) || !slices.Equal(whole, []bool{true, true, false, true, true, true, true}) {
		t.Errorf("the inputs are %v, of %v", again, whole)
	}
	if !slices.Equal(g.Inputs(), xs) {
		t.Errorf("the graph has the inputs %v", g.Inputs())
	}
}

// No function panics, whatever it is given; so says the document of all.
func TestMakersOfNobody(t *testing.T) {
	for _, m := range []*cnf.Maker{nil, {}, cnf.New(nil), cnf.New(&graph.Graph{})} {
		for range 2 {
			for _, e := range []int{0, 1, 2, 3, -1, math.MaxInt, math.MinInt} {
				m.Lit(e)
			}
			m.Take()
			m.Vars()
			if in := m.Inputs([]bool{true, true}); len(in) != 0 {
				t.Errorf("the inputs are %v", in)
			}
		}
	}
}
