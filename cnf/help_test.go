package cnf_test

import (
	"math/rand/v2"
	"slices"
	"testing"

	"weirgate/cnf"
	"weirgate/graph"
)

// plain does, node by node, what the chapter's words say.
type plain struct {
	g       *graph.Graph
	order   []int // the nodes, as they are needed: the variable of each is its place
	clauses [][]int
}

func newPlain(g *graph.Graph) *plain {
	return &plain{g: g, order: []int{0}, clauses: [][]int{{-1}}}
}

// variable returns that of a node; 0 if it was not needed.
func (p *plain) variable(n int) int {
	return slices.Index(p.order, n) + 1
}

func (p *plain) literal(e int) int {
	if e%2 == 1 {
		return -p.variable(e / 2)
	}
	return p.variable(e / 2)
}

func (p *plain) need(n int) {
	if p.variable(n) != 0 {
		return
	}
	a, b, and := p.g.Node(n)
	if and {
		p.need(a / 2)
		p.need(b / 2)
	}
	p.order = append(p.order, n)
	if and {
		v := p.variable(n)
		p.clauses = append(p.clauses, []int{-v, p.literal(a)}, []int{-v, p.literal(b)}, []int{v, -p.literal(a), -p.literal(b)})
	}
}

// ask needs the node of an edge, and returns its literal.
func (p *plain) ask(e int) int {
	p.need(e / 2)
	return p.literal(e)
}

// withInputs returns a graph and the edges of its inputs.
func withInputs(count int) (*graph.Graph, []int) {
	g := graph.New()
	var xs []int
	for range count {
		xs = append(xs, g.Input())
	}
	return g, xs
}

// strangers returns edges that do not belong to the graph: its next ones, too.
func strangers(g *graph.Graph) []int {
	const most = int(^uint(0) >> 1)
	next := 2 * g.Nodes()
	return []int{-1, -2, -3, next, next + 1, next + 2, next + 3, 1 << 32, 1<<32 + 1, most, most - 1, -most, -most - 1}
}

// pick returns an edge of the graph.
func pick(r *rand.Rand, g *graph.Graph) int {
	return r.IntN(2 * g.Nodes())
}

// grow adds so many nodes or less: inputs, and ands of what there is.
func grow(r *rand.Rand, g *graph.Graph, count int) {
	for range count {
		if r.IntN(4) == 0 {
			g.Input()
		} else {
			g.And(pick(r, g), pick(r, g))
		}
	}
}

// holds reports whether a literal of each clause is true in the model.
func holds(cs [][]int, model []bool) bool {
	for _, c := range cs {
		if !slices.ContainsFunc(c, func(n int) bool { return model[max(n, -n)-1] == (n > 0) }) {
			return false
		}
	}
	return true
}

// bools returns the lowest bits of n.
func bools(n, count int) []bool {
	bs := make([]bool, count)
	for i := range bs {
		bs[i] = n>>i&1 == 1
	}
	return bs
}

// number returns the one whose bits they are.
func number(bs []bool) int {
	n := 0
	for i, b := range bs {
		if b {
			n |= 1 << i
		}
	}
	return n
}

// some returns as many values that look random.
func some(r *rand.Rand, count int) []bool {
	bs := make([]bool, count)
	for i := range bs {
		bs[i] = r.IntN(2) == 0
	}
	return bs
}

// values returns those of the nodes, in the order of their variables, as the graph sees them.
func (p *plain) values(in []bool) []bool {
	es := make([]int, len(p.order))
	for i, n := range p.order {
		es[i] = 2 * n
	}
	return p.g.Eval(in, es...)
}

// without returns the inputs of the graph, where those that were not needed are false.
func (p *plain) without(in []bool) []bool {
	rest := make([]bool, len(in))
	for i, e := range p.g.Inputs() {
		rest[i] = in[i] && p.variable(e/2) != 0
	}
	return rest
}

func same(a, b [][]int) bool {
	return slices.EqualFunc(a, b, slices.Equal[[]int])
}

// checkTake compares what was created with what should have been.
func checkTake(t *testing.T, m *cnf.Maker, want ...[]int) {
	t.Helper()
	if got := m.Take(); !same(got, want) {
		t.Errorf("the clauses are %v, not %v", got, want)
	}
	if got := m.Take(); len(got) != 0 {
		t.Errorf("taken again, the clauses are %v", got)
	}
}

// checkLits compares literals of edges, one after the other.
func checkLits(t *testing.T, m *cnf.Maker, pairs ...[2]int) {
	t.Helper()
	for _, p := range pairs {
		if got := m.Lit(p[0]); got != p[1] {
			t.Errorf("Lit(%d) is %d, not %d", p[0], got, p[1])
		}
	}
}
