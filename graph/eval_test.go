package graph_test

import (
	"math"
	"slices"
	"testing"

	"weirgate/api"
	"weirgate/graph"
)

// P5.3.
func TestNode(t *testing.T) {
	g, xs := withInputs(2)
	x, y := xs[0], xs[1]
	a := g.And(y, x)
	b := g.And(graph.Not(a), x)
	z := g.Input()
	c := g.And(z, graph.Not(y))
	for _, w := range []struct {
		n, low, high int
		ok           bool
	}{
		{0, 0, 0, false}, {x / 2, 0, 0, false}, {y / 2, 0, 0, false}, {z / 2, 0, 0, false},
		{a / 2, x, y, true}, {b / 2, x, graph.Not(a), true}, {c / 2, graph.Not(y), z, true},
		{g.Nodes(), 0, 0, false}, {-1, 0, 0, false}, {c, 0, 0, false},
		{math.MaxInt, 0, 0, false}, {math.MinInt, 0, 0, false}, {1 << 32, 0, 0, false}, {1<<32 + a/2, 0, 0, false},
	} {
		if low, high, ok := g.Node(w.n); low != w.low || high != w.high || ok != w.ok {
			t.Errorf("Node(%d) is %d, %d, %v", w.n, low, high, ok)
		}
	}
	if g.Nodes() != 7 {
		t.Errorf("there are %d nodes", g.Nodes())
	}
}

// P5.3: with ands between them.
func TestInputs(t *testing.T) {
	g := graph.New()
	var want []int
	for i := range 20 {
		want = append(want, g.Input())
		for _, x := range want[:i] {
			g.And(x, want[i])
		}
		if !slices.Equal(g.Inputs(), want) {
			t.Fatalf("the inputs are %v, not %v", g.Inputs(), want)
		}
	}
	if !slices.IsSorted(want) || g.Nodes() != 1+20+190 {
		t.Errorf("%d nodes, with the inputs %v", g.Nodes(), want)
	}
}

// P5.3.
func TestEval(t *testing.T) {
	g, xs := withInputs(2)
	x, y := xs[0], xs[1]
	a := g.And(x, graph.Not(y))
	z := g.Input()
	b := g.And(graph.Not(a), z)
	for _, c := range []struct {
		model []bool
		es    []int
		want  []bool
	}{
		{nil, nil, nil},
		{[]bool{true}, nil, nil},
		{nil, []int{0, 1, 0}, []bool{false, true, false}},
		{nil, []int{x, y, z, a, b}, []bool{false, false, false, false, false}},
		{nil, []int{3, 5, 9, 7, 11}, []bool{true, true, true, true, true}},
		{[]bool{true}, []int{x, y, z, a, b}, []bool{true, false, false, true, false}},
		{[]bool{true, true}, []int{x, y, z, a, b}, []bool{true, true, false, false, false}},
		{[]bool{false, true, true}, []int{b, a, z, y, x}, []bool{true, false, true, true, false}},
		{[]bool{true, false, true}, []int{x, y, z, a, b}, []bool{true, false, true, true, false}},
		{[]bool{true, false, true}, []int{3, 5, 9, 7, 11}, []bool{false, true, false, false, true}},
		{[]bool{true, true, true}, []int{b, b, 11, b}, []bool{true, true, false, true}},
		{[]bool{false, false, true, true, true}, []int{z, b, x}, []bool{true, true, false}},
		{[]bool{true, false, true}, []int{z}, []bool{true}},
		{[]bool{true, false, true}, []int{y, 99, x, -1, 13}, []bool{false, false, true, false, false}},
	} {
		if got := g.Eval(c.model, c.es...); !slices.Equal(got, c.want) {
			t.Errorf("Eval(%v, %v) is %v", c.model, c.es, got)
		}
	}
	if g.Nodes() != 6 {
		t.Errorf("then there are %d nodes", g.Nodes())
	}
}

// P5.3: of a graph that is as deep as one can be.
func TestEvalOfDeepGraph(t *testing.T) {
	g, xs := withInputs(2)
	e := xs[1]
	for n := 3; n < api.MaxNodes; n++ {
		e = graph.Not(g.And(e, xs[1-n%2]))
	}
	value := []bool{true, false}
	want := true
	for n := 3; n < api.MaxNodes; n++ {
		want = !(want && value[1-n%2])
	}
	if got := g.Eval(value, e, e^1); !slices.Equal(got, []bool{want, !want}) || g.Nodes() != api.MaxNodes {
		t.Errorf("the last edge is %v, not %v", got, want)
	}
}

// P5.3: neither results nor arguments are shared with the graph, or changed.
func TestMemory(t *testing.T) {
	g, xs := withInputs(3)
	a := g.And(xs[0], xs[1])
	inputs := g.Inputs()
	clear(inputs)
	inputs = append(inputs[:0], 7, 7, 7, 7)
	if !slices.Equal(g.Inputs(), xs) {
		t.Errorf("the inputs were changed: %v", g.Inputs())
	}
	whole := []int{xs[0], xs[1], 1, 99, -5, 6}
	model := []bool{true, true, true, false, true}
	es := whole[:4]
	first := g.Eval(model[:3], es...)
	second := g.Eval(model[:3], es...)
	clear(first)
	g.All(es...)
	g.Any(es...)
	if !slices.Equal(second, []bool{true, true, true, false}) || !slices.Equal(whole, []int{xs[0], xs[1], 1, 99, -5, 6}) || !slices.Equal(model, []bool{true, true, true, false, true}) {
		t.Errorf("changed: %v, %v, %v", second, whole, model)
	}
	clear(whole)
	clear(model)
	if e := g.And(xs[1], xs[0]); e != a || !slices.Equal(g.Inputs(), xs) {
		t.Errorf("the graph was changed: %d", e)
	}
}

// No function panics, whatever it is given; so says the document of all.
func TestGraphsOfNobody(t *testing.T) {
	for _, g := range []*graph.Graph{nil, {}} {
		for range 3 {
			for _, e := range []int{0, 1, 2, 3, 4, 5, -1, math.MaxInt, math.MinInt} {
				g.Input()
				g.And(e, 2)
				g.And(2, 4)
				g.Or(e, 2)
				g.Xor(4, e)
				g.Mux(e, 2, 4)
				g.All(e, 2, 4)
				g.Any(e, 2, 4)
				g.Node(e)
				graph.Not(e)
				if got := g.Eval([]bool{true}, e, e); len(got) != 2 {
					t.Errorf("Eval is %v", got)
				}
			}
		}
		if g.Nodes() != 0 || len(g.Inputs()) != 0 {
			t.Errorf("there are %d nodes, and the inputs %v", g.Nodes(), g.Inputs())
		}
	}
}
