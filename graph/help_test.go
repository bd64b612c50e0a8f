package graph_test

import (
	"math"
	"math/rand/v2"
	"slices"
	"testing"

	"weirgate/api"
	"weirgate/graph"
)

// strangers returns edges that do not belong to the graph: its next ones, too.
func strangers(g *graph.Graph) []int {
	next := 2 * g.Nodes()
	return []int{-1, -2, -3, next, next + 1, next + 2, next + 3, 1 << 32, 1<<32 + 1, math.MaxInt, math.MaxInt - 1, math.MinInt, math.MinInt + 1}
}

// withInputs returns a graph and the edges of its inputs.
func withInputs(count int) (*graph.Graph, []int) {
	g := graph.New()
	var xs []int
	for range count {
		xs = append(xs, g.Input())
	}
	return g, xs
}

// fill adds inputs until the graph has so many nodes.
func fill(t *testing.T, g *graph.Graph, nodes int) {
	t.Helper()
	for g.Nodes() < nodes {
		if e := g.Input(); e != 2*(g.Nodes()-1) {
			t.Fatalf("an input of a graph with %d nodes is %d", g.Nodes(), e)
		}
	}
}

// models returns all models of so many inputs; input i of model m is the bit i of m.
func models(inputs int) [][]bool {
	var all [][]bool
	for m := range 1 << inputs {
		model := make([]bool, inputs)
		for i := range model {
			model[i] = m>>i&1 == 1
		}
		all = append(all, model)
	}
	return all
}

// table returns the values of an edge in all models of so many inputs, as bits.
func table(g *graph.Graph, inputs, e int) uint64 {
	var bits uint64
	for m, model := range models(inputs) {
		if g.Eval(model, e)[0] {
			bits |= 1 << m
		}
	}
	return bits
}

// checkNodes looks whether each and occurs once, behind the nodes of its edges, and is none of those that And knows otherwise.
func checkNodes(t *testing.T, g *graph.Graph) {
	t.Helper()
	met := map[[2]int]int{}
	inputs := g.Inputs()
	for n := range g.Nodes() {
		low, high, ok := g.Node(n)
		if ok == (n == 0 || slices.Contains(inputs, 2*n)) {
			t.Fatalf("node %d: an and is %v", n, ok)
		}
		if !ok {
			if low != 0 || high != 0 {
				t.Fatalf("node %d, which is no and, has the edges %d, %d", n, low, high)
			}
			continue
		}
		if low < 2 || low >= high || high >= 2*n || high == graph.Not(low) {
			t.Fatalf("node %d has the edges %d, %d", n, low, high)
		}
		if m, ok := met[[2]int{low, high}]; ok {
			t.Fatalf("nodes %d and %d are the same and", m, n)
		}
		met[[2]int{low, high}] = n
	}
}

// sum is a graph with edges, and with what each of them is in all models of its inputs.
type sum struct {
	g     *graph.Graph
	es    []int
	bits  []uint64
	whole uint64 // all models
}

func newSum(inputs int) *sum {
	g, xs := withInputs(inputs)
	s := &sum{g: g, whole: 1<<(1<<inputs) - 1}
	s.put(0, 0)
	s.put(1, s.whole)
	for i, x := range xs {
		var bits uint64
		for m, model := range models(inputs) {
			if model[i] {
				bits |= 1 << m
			}
		}
		s.put(x, bits)
	}
	return s
}

func (s *sum) put(e int, bits uint64) {
	s.es = append(s.es, e)
	s.bits = append(s.bits, bits)
}

// pick returns an edge or its negation; sometimes one that does not belong to the graph, which is false.
func (s *sum) pick(r *rand.Rand) (int, uint64) {
	if r.IntN(20) == 0 {
		es := strangers(s.g)
		return es[r.IntN(len(es))], 0
	}
	return s.pickOwn(r)
}

func (s *sum) pickOwn(r *rand.Rand) (int, uint64) {
	i := r.IntN(len(s.es))
	if r.IntN(2) == 0 {
		return graph.Not(s.es[i]), s.whole &^ s.bits[i]
	}
	return s.es[i], s.bits[i]
}

func (s *sum) pickSome(r *rand.Rand) ([]int, []uint64) {
	es := make([]int, r.IntN(6))
	bits := make([]uint64, len(es))
	for i := range es {
		es[i], bits[i] = s.pick(r)
	}
	return es, bits
}

// grow adds an edge that one of the functions returned.
func (s *sum) grow(r *rand.Rand) {
	a, p := s.pick(r)
	b, q := s.pick(r)
	switch r.IntN(6) {
	case 0:
		s.put(s.g.And(a, b), p&q)
	case 1:
		s.put(s.g.Or(a, b), p|q)
	case 2:
		s.put(s.g.Xor(a, b), p^q)
	case 3:
		c, u := s.pick(r)
		s.put(s.g.Mux(c, a, b), u&p|s.whole&^u&q)
	case 4:
		es, bits := s.pickSome(r)
		all := s.whole
		for _, b := range bits {
			all &= b
		}
		s.put(s.g.All(es...), all)
	case 5:
		es, bits := s.pickSome(r)
		var some uint64
		for _, b := range bits {
			some |= b
		}
		s.put(s.g.Any(es...), some)
	}
}

// full returns a full graph, two inputs of it, and the and of them.
func full(t *testing.T) (*graph.Graph, int, int, int) {
	t.Helper()
	g, xs := withInputs(2)
	a := g.And(xs[0], xs[1])
	fill(t, g, api.MaxNodes)
	return g, xs[0], xs[1], a
}
