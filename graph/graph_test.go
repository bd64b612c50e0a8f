package graph_test

import (
	"math"
	"math/rand/v2"
	"slices"
	"testing"

	"weirgate/api"
	"weirgate/graph"
)

// P5.1.
func TestNew(t *testing.T) {
	g := graph.New()
	if g.Nodes() != 1 || len(g.Inputs()) != 0 {
		t.Errorf("a new graph has %d nodes and the inputs %v", g.Nodes(), g.Inputs())
	}
	if a, b, ok := g.Node(0); a != 0 || b != 0 || ok {
		t.Errorf("node 0 is %d, %d, %v", a, b, ok)
	}
	if got := g.Eval(nil, 0, 1); !slices.Equal(got, []bool{false, true}) {
		t.Errorf("0 and 1 are %v", got)
	}
}

// P5.1.
func TestInput(t *testing.T) {
	g := graph.New()
	x, y := g.Input(), g.Input()
	a := g.And(x, y)
	z := g.Input()
	if got := []int{x, y, a, z}; !slices.Equal(got, []int{2, 4, 6, 8}) || g.Nodes() != 5 {
		t.Errorf("the edges are %v, of %d nodes", got, g.Nodes())
	}
}

// P5.1: each graph has nodes of its own.
func TestTwoGraphs(t *testing.T) {
	g, xs := withInputs(3)
	h, ys := withInputs(2)
	a, b := g.And(xs[1], xs[2]), h.And(ys[0], ys[1])
	if a != 8 || b != 6 || g.Nodes() != 5 || h.Nodes() != 4 {
		t.Errorf("the ands are %d of %d, and %d of %d", a, g.Nodes(), b, h.Nodes())
	}
	if e := h.And(a, ys[0]); e != 0 {
		t.Errorf("an edge of another graph is not false: %d", e)
	}
}

// P5.1.
func TestNot(t *testing.T) {
	for _, e := range []int{0, 2, 4, 198, 2 * api.MaxNodes, 1 << 40, math.MaxInt - 1} {
		if graph.Not(e) != e+1 || graph.Not(e+1) != e {
			t.Errorf("the negations of %d and %d are %d and %d", e, e+1, graph.Not(e), graph.Not(e+1))
		}
	}
}

// P5.1.
func TestAndWithoutNode(t *testing.T) {
	g, xs := withInputs(2)
	x, y := xs[0], xs[1]
	a := g.And(x, y)
	nodes := g.Nodes()
	for _, e := range []int{0, 1, x, y, a, graph.Not(x), graph.Not(y), graph.Not(a)} {
		for _, c := range []struct{ a, b, want int }{
			{e, 0, 0}, {0, e, 0},
			{e, 1, e}, {1, e, e},
			{e, e, e},
			{e, graph.Not(e), 0}, {graph.Not(e), e, 0},
		} {
			if got := g.And(c.a, c.b); got != c.want {
				t.Errorf("And(%d, %d) is %d, not %d", c.a, c.b, got, c.want)
			}
		}
	}
	if g.Nodes() != nodes {
		t.Errorf("%d nodes are new", g.Nodes()-nodes)
	}
}

// P5.1: the negations are edges of their own; the same two have one node, in either order.
func TestAndWithNode(t *testing.T) {
	g, xs := withInputs(2)
	var es []int
	for _, x := range []int{xs[0], graph.Not(xs[0])} {
		for _, y := range []int{xs[1], graph.Not(xs[1])} {
			nodes := g.Nodes()
			e := g.And(y, x)
			if e != 2*nodes || g.Nodes() != nodes+1 {
				t.Errorf("And(%d, %d) is %d, with %d nodes of then %d", y, x, e, nodes, g.Nodes())
			}
			es = append(es, e)
		}
	}
	nodes := g.Nodes()
	for i, x := range []int{xs[0], graph.Not(xs[0])} {
		for j, y := range []int{xs[1], graph.Not(xs[1])} {
			if want := es[2*i+j]; g.And(x, y) != want || g.And(y, x) != want {
				t.Errorf("And(%d, %d) is %d or %d, not %d", x, y, g.And(x, y), g.And(y, x), want)
			}
		}
	}
	if g.Nodes() != nodes {
		t.Errorf("%d nodes are new", g.Nodes()-nodes)
	}
}

// P5.1: in all functions.
func TestStrangersAreFalse(t *testing.T) {
	g, xs := withInputs(2)
	x, y := xs[0], xs[1]
	g.And(x, y)
	nodes := g.Nodes()
	for _, s := range strangers(g) {
		for i, c := range []struct{ got, want int }{
			{g.And(s, x), 0}, {g.And(x, s), 0}, {g.And(s, 1), 0}, {g.And(1, s), 0}, {g.And(s, s), 0}, {g.And(s, 0), 0},
			{g.And(s, s^1), 0},
			{g.Or(s, x), x}, {g.Or(x, s), x}, {g.Or(s, 1), 1}, {g.Or(0, s), 0}, {g.Or(s, s), 0}, {g.Or(s, s^1), 0},
			{g.Xor(s, x), x}, {g.Xor(x, s), x}, {g.Xor(s, 1), 1}, {g.Xor(0, s), 0}, {g.Xor(s, s), 0}, {g.Xor(s, s^1), 0},
			{g.Mux(s, x, y), y}, {g.Mux(1, s, x), 0}, {g.Mux(0, x, s), 0}, {g.Mux(x, 1, s), x}, {g.Mux(x, s, s), 0},
			{g.Mux(s, s, s), 0}, {g.Mux(s, x, x), x}, {g.Mux(x, s, s^1), 0},
			{g.All(s), 0}, {g.All(x, s), 0}, {g.All(s, 1, x), 0},
			{g.Any(s), 0}, {g.Any(x, s), x}, {g.Any(s, 0, s, x), x}, {g.Any(s, 1), 1},
		} {
			if c.got != c.want {
				t.Errorf("result %d with %d is %d, not %d", i, s, c.got, c.want)
			}
		}
		if got := g.Eval([]bool{true, true}, s, x, s); !slices.Equal(got, []bool{false, true, false}) {
			t.Errorf("Eval(%d, %d, %d) is %v", s, x, s, got)
		}
	}
	if g.Nodes() != nodes {
		t.Errorf("%d nodes are new", g.Nodes()-nodes)
	}
}

// P5.1: an edge belongs to the graph from the call on that returned it.
func TestStrangerBecomesOwn(t *testing.T) {
	g, xs := withInputs(1)
	x := xs[0]
	if g.And(4, x) != 0 || g.Or(4, x) != x || g.Or(5, x) != x {
		t.Error("4 belongs to a graph with one input")
	}
	y := g.Input()
	if a := g.And(4, x); y != 4 || a != 6 || !g.Eval([]bool{true, true}, a)[0] {
		t.Errorf("And(4, %d) is %d", x, a)
	}
}

// P5.1: not even if the call itself makes a node of that number.
func TestStrangerStays(t *testing.T) {
	for _, s := range []int{8, 9, 10, 11} {
		g, xs := withInputs(3)
		if e := g.All(xs[0], xs[1], xs[2], s); e != 0 {
			t.Errorf("All of three and %d is %d", s, e)
		}
		g, xs = withInputs(3)
		if e := g.Any(xs[0], xs[1], xs[2], s); e != g.Any(xs...) {
			t.Errorf("Any of three and %d is %d, not %d", s, e, g.Any(xs...))
		}
		g, xs = withInputs(3)
		if e := g.Xor(xs[0], s); e != xs[0] {
			t.Errorf("Xor(%d, %d) is %d", xs[0], s, e)
		}
		if e := g.Mux(xs[0], xs[1], s); e != 8 || g.Mux(xs[0], xs[1], 0) != e {
			t.Errorf("Mux(%d, %d, %d) is %d", xs[0], xs[1], s, e)
		}
	}
}

// P5.1: just as long as there is room.
func TestLastNode(t *testing.T) {
	g, xs := withInputs(2)
	fill(t, g, api.MaxNodes-1)
	last := 2 * (api.MaxNodes - 1)
	if a := g.And(xs[0], xs[1]); a != last || g.Nodes() != api.MaxNodes {
		t.Errorf("the last node is an and: %d of %d", a, g.Nodes())
	}
	if p, q, ok := g.Node(api.MaxNodes - 1); p != xs[0] || q != xs[1] || !ok {
		t.Errorf("the last node is %d, %d, %v", p, q, ok)
	}
	h := graph.New()
	fill(t, h, api.MaxNodes-1)
	if x := h.Input(); x != last || h.Nodes() != api.MaxNodes || len(h.Inputs()) != api.MaxNodes-1 {
		t.Errorf("the last node is an input: %d of %d", x, h.Nodes())
	}
}

// P5.1: again and again.
func TestFullGraph(t *testing.T) {
	g, x, y, a := full(t)
	inputs := g.Inputs()
	for range 3 {
		for i, c := range []struct{ got, want int }{
			{g.Input(), 0},
			{g.And(x, graph.Not(y)), 0}, {g.And(a, x), 0}, {g.And(2*api.MaxNodes, x), 0},
			{g.And(x, y), a}, {g.And(y, x), a}, {g.All(x, y), a},
			{g.And(x, 1), x}, {g.And(x, 0), 0}, {g.And(a, a), a}, {g.And(a, graph.Not(a)), 0},
			{g.Or(graph.Not(x), graph.Not(y)), graph.Not(a)}, {g.Or(a, 0), a}, {g.Or(x, y), 1},
		} {
			if c.got != c.want {
				t.Errorf("result %d is %d, not %d", i, c.got, c.want)
			}
		}
	}
	if g.Nodes() != api.MaxNodes || !slices.Equal(g.Inputs(), inputs) {
		t.Errorf("then there are %d nodes, %d of them inputs", g.Nodes(), len(g.Inputs()))
	}
	if _, _, ok := g.Node(api.MaxNodes); ok || !g.Eval([]bool{true, true}, a)[0] {
		t.Error("there are other nodes")
	}
}

// P5.2: with all edges of a small graph.
func TestTwoEdges(t *testing.T) {
	g, xs := withInputs(2)
	for _, a := range []int{0, 1, xs[0], xs[1], graph.Not(xs[0]), graph.Not(xs[1])} {
		for _, b := range []int{0, 1, xs[0], xs[1], graph.Not(xs[0]), graph.Not(xs[1])} {
			p, q := table(g, 2, a), table(g, 2, b)
			or, xor := g.Or(a, b), g.Xor(a, b)
			if table(g, 2, or) != p|q || table(g, 2, xor) != p^q {
				t.Errorf("Or(%d, %d) is %d, Xor is %d", a, b, or, xor)
			}
			if g.Or(b, a) != or || g.Xor(b, a) != xor {
				t.Errorf("Or(%d, %d) is %d, Xor is %d", b, a, g.Or(b, a), g.Xor(b, a))
			}
			if e := graph.Not(g.And(graph.Not(a), graph.Not(b))); e != or {
				t.Errorf("Or(%d, %d) is %d, not %d", a, b, or, e)
			}
			for _, c := range []int{0, 1, xs[0], graph.Not(xs[1])} {
				u := table(g, 2, c)
				if e := g.Mux(c, a, b); table(g, 2, e) != u&p|^u&q {
					t.Errorf("Mux(%d, %d, %d) is %d", c, a, b, e)
				}
			}
		}
	}
	checkNodes(t, g)
}

// P5.2: Or is a negated and of negations, not a node of another kind.
func TestOrIsAnd(t *testing.T) {
	g, xs := withInputs(2)
	e := g.Or(xs[0], xs[1])
	if a, b, ok := g.Node(e / 2); e != 7 || a != 3 || b != 5 || !ok || g.Nodes() != 4 {
		t.Errorf("Or is %d: %d, %d, %v", e, a, b, ok)
	}
	if g.And(5, 3) != 6 || g.And(graph.Not(xs[0]), graph.Not(xs[1])) != 6 || g.Nodes() != 4 {
		t.Error("its and is there twice")
	}
}

// P5.2.
func TestMuxOfThreeInputs(t *testing.T) {
	g, xs := withInputs(3)
	e := g.Mux(xs[2], xs[0], xs[1])
	for _, model := range models(3) {
		want := model[1]
		if model[2] {
			want = model[0]
		}
		if g.Eval(model, e)[0] != want {
			t.Errorf("Mux is not %v in %v", want, model)
		}
	}
	if g.Mux(1, xs[0], xs[1]) != xs[0] || g.Mux(0, xs[0], xs[1]) != xs[1] {
		t.Error("Mux of 1 and 0 is neither edge")
	}
	checkNodes(t, g)
}

// P5.2.
func TestAllAndAny(t *testing.T) {
	g, xs := withInputs(3)
	x, y, z := xs[0], xs[1], xs[2]
	for _, c := range []struct {
		es       []int
		all, any func(p, q, r bool) bool
	}{
		{nil, func(p, q, r bool) bool { return true }, func(p, q, r bool) bool { return false }},
		{[]int{0}, func(p, q, r bool) bool { return false }, func(p, q, r bool) bool { return false }},
		{[]int{1}, func(p, q, r bool) bool { return true }, func(p, q, r bool) bool { return true }},
		{[]int{y}, func(p, q, r bool) bool { return q }, func(p, q, r bool) bool { return q }},
		{[]int{3}, func(p, q, r bool) bool { return !p }, func(p, q, r bool) bool { return !p }},
		{[]int{x, z}, func(p, q, r bool) bool { return p && r }, func(p, q, r bool) bool { return p || r }},
		{[]int{x, y, z}, func(p, q, r bool) bool { return p && q && r }, func(p, q, r bool) bool { return p || q || r }},
		{[]int{z, 5, x}, func(p, q, r bool) bool { return p && !q && r }, func(p, q, r bool) bool { return p || !q || r }},
		{[]int{x, x, y, x}, func(p, q, r bool) bool { return p && q }, func(p, q, r bool) bool { return p || q }},
		{[]int{x, y, 3}, func(p, q, r bool) bool { return false }, func(p, q, r bool) bool { return true }},
		{[]int{x, 0, z}, func(p, q, r bool) bool { return false }, func(p, q, r bool) bool { return p || r }},
		{[]int{1, y, 1, z}, func(p, q, r bool) bool { return q && r }, func(p, q, r bool) bool { return true }},
	} {
		all, some := g.All(c.es...), g.Any(c.es...)
		for _, m := range models(3) {
			if got, want := g.Eval(m, all, some), []bool{c.all(m[0], m[1], m[2]), c.any(m[0], m[1], m[2])}; !slices.Equal(got, want) {
				t.Errorf("All(%v) and Any are %v in %v, not %v", c.es, got, m, want)
			}
		}
	}
	if g.All() != 1 || g.Any() != 0 {
		t.Errorf("All and Any of none are %d, %d", g.All(), g.Any())
	}
	checkNodes(t, g)
}

// P5.2: of many edges.
func TestAllAndAnyOfMany(t *testing.T) {
	g, xs := withInputs(300)
	all, some := g.All(xs...), g.Any(xs...)
	model := make([]bool, len(xs))
	for i := range model {
		model[i] = true
		if got := g.Eval(model, all, some); !slices.Equal(got, []bool{i == len(xs)-1, true}) {
			t.Errorf("with %d true ones All and Any are %v", i+1, got)
		}
	}
	if got := g.Eval(nil, all, some); !slices.Equal(got, []bool{false, false}) {
		t.Errorf("without true ones All and Any are %v", got)
	}
}

// P5.1 and P5.2: whatever is made of what, it is what it should be, and there is nothing but inputs and ands.
func TestManyGraphs(t *testing.T) {
	r := rand.New(rand.NewPCG(5, 1))
	for range 300 {
		s := newSum(1 + r.IntN(5))
		inputs := len(s.g.Inputs())
		for range r.IntN(60) {
			s.grow(r)
		}
		for i, e := range s.es {
			if got := table(s.g, inputs, e); got != s.bits[i] {
				t.Fatalf("edge %d is %b, not %b", e, got, s.bits[i])
			}
		}
		if len(s.g.Inputs()) != inputs {
			t.Fatalf("there are %d new inputs", len(s.g.Inputs())-inputs)
		}
		checkNodes(t, s.g)
	}
}

// P5.1: the same calls return the same edges, and make no new nodes.
func TestTheSameAgain(t *testing.T) {
	r := rand.New(rand.NewPCG(5, 2))
	for range 300 {
		s := newSum(4)
		for range 30 {
			s.grow(r)
			a, _ := s.pickOwn(r)
			b, _ := s.pickOwn(r)
			c, _ := s.pickOwn(r)
			calls := func() []int {
				return []int{s.g.And(a, b), s.g.Or(a, b), s.g.Xor(a, b), s.g.Mux(c, a, b), s.g.All(a, b, c), s.g.Any(a, b, c)}
			}
			first, nodes := calls(), s.g.Nodes()
			if again := calls(); !slices.Equal(again, first) || s.g.Nodes() != nodes {
				t.Fatalf("%d, %d, %d: %v with %d nodes, then %v with %d", a, b, c, first, nodes, again, s.g.Nodes())
			}
		}
	}
}
