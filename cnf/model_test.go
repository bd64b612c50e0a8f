package cnf_test

import (
	"math/rand/v2"
	"slices"
	"testing"

	"weirgate/api"
	"weirgate/cnf"
	"weirgate/graph"
	"weirgate/sat"
)

// P7.1: whatever is asked for, in whatever order, while the graph grows.
func TestManyGraphs(t *testing.T) {
	r := rand.New(rand.NewPCG(7, 1))
	for range 300 {
		g := graph.New()
		m, p := cnf.New(g), newPlain(g)
		var taken [][]int
		for range 1 + r.IntN(12) {
			grow(r, g, r.IntN(12))
			for range r.IntN(3) {
				e := pick(r, g)
				if got, want := m.Lit(e), p.ask(e); got != want || m.Vars() != len(p.order) {
					t.Fatalf("Lit(%d) is %d of %d, not %d of %d", e, got, m.Vars(), want, len(p.order))
				}
			}
			if r.IntN(2) == 0 {
				taken = append(taken, m.Take()...)
			}
		}
		taken = append(taken, m.Take()...)
		if !same(taken, p.clauses) {
			t.Fatalf("the clauses are %v, not %v", taken, p.clauses)
		}
		for range 4 {
			in := some(r, len(g.Inputs()))
			if model := p.values(in); !holds(taken, model) || !slices.Equal(m.Inputs(model), p.without(in)) {
				t.Fatalf("%v, the values with the inputs %v, which are %v, are no model of %v", model, in, m.Inputs(model), taken)
			}
		}
	}
}

// P7.3: all models of few variables: one for each choice of the needed inputs, with the graph's values.
func TestAllModels(t *testing.T) {
	r := rand.New(rand.NewPCG(7, 2))
	for range 300 {
		g, _ := withInputs(1 + r.IntN(3))
		m, p := cnf.New(g), newPlain(g)
		for range 1 + r.IntN(3) {
			grow(r, g, r.IntN(6))
			if e := pick(r, g); len(p.order) < 6 {
				m.Lit(e)
				p.ask(e)
			}
		}
		cs := m.Take()
		met := map[int]int{}
		for n := range 1 << m.Vars() {
			model := bools(n, m.Vars())
			if !holds(cs, model) {
				continue
			}
			in := m.Inputs(model)
			if want := p.values(in); !slices.Equal(model, want) {
				t.Fatalf("the model %v of %v has the inputs %v, with which the values are %v", model, cs, in, want)
			}
			met[number(in)]++
		}
		needed := 0
		for _, e := range g.Inputs() {
			if p.variable(e/2) != 0 {
				needed++
			}
		}
		if len(met) != 1<<needed {
			t.Fatalf("%v has models for %d choices of %d inputs", cs, len(met), needed)
		}
		for in, count := range met {
			if count != 1 {
				t.Fatalf("%v has %d models with the inputs %b", cs, count, in)
			}
		}
	}
}

// P7.3: what a solver finds in the clauses is so in the graph, and what it does not find is not.
func TestSolver(t *testing.T) {
	r := rand.New(rand.NewPCG(7, 3))
	found := [3]int{}
	for range 200 {
		g, xs := withInputs(6)
		for range 30 {
			g.And(pick(r, g), pick(r, g))
		}
		e := g.And(g.And(pick(r, g), pick(r, g)), g.And(pick(r, g), pick(r, g)))
		m := cnf.New(g)
		goal := m.Lit(e)
		s, _ := sat.New(m.Vars())
		for _, c := range m.Take() {
			if err := s.Add(c); err != api.OK {
				t.Fatalf("%v is no clause for %d variables", c, m.Vars())
			}
		}
		answer := s.Solve(-1, goal)
		found[answer]++
		if answer == api.Sat {
			if in := m.Inputs(s.Model()); !g.Eval(in, e)[0] {
				t.Errorf("with the inputs %v edge %d is false", in, e)
			}
			continue
		}
		for n := range 1 << len(xs) {
			if in := bools(n, len(xs)); g.Eval(in, e)[0] {
				t.Fatalf("with the inputs %v edge %d is true", in, e)
			}
		}
	}
	if found[api.Sat] < 20 || found[api.Unsat] < 20 {
		t.Errorf("of the edges %d can be true, and %d cannot", found[api.Sat], found[api.Unsat])
	}
}
