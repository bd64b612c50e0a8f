package sat

import (
	"slices"
	"testing"

	"weirgate/api"
	"weirgate/clause"
)

func newSolver(t *testing.T, n int, cs ...[]int) *Solver {
	t.Helper()
	s, e := New(n)
	if s == nil || e != api.OK {
		t.Fatalf("New(%d) is %v, %v", n, s, e)
	}
	addAll(t, s, cs...)
	return s
}

func addAll(t *testing.T, s *Solver, cs ...[]int) {
	t.Helper()
	for _, c := range cs {
		if e := s.Add(c); e != api.OK {
			t.Fatalf("Add(%v) is %v", c, e)
		}
	}
}

// draws returns numbers that look random, the same ones for the same seed.
func draws(seed int) func(below int) int {
	state := uint64(seed)*2862933555777941757 + 3037000493
	return func(below int) int {
		state = state*6364136223846793005 + 1442695040888963407
		return int(state>>33) % below
	}
}

func randomClause(draw func(int) int, n, length int) []int {
	c := make([]int, length)
	for i := range c {
		c[i] = 1 + draw(n)
		if draw(2) == 0 {
			c[i] = -c[i]
		}
	}
	return c
}

func randomClauses(seed, n, count int) [][]int {
	draw := draws(seed)
	var cs [][]int
	for range count {
		cs = append(cs, randomClause(draw, n, 3))
	}
	return cs
}

// pigeons returns clauses that say that so many pigeons have a hole each; with more holes than pigeons they have a model. Each clause also has the literals of others.
func pigeons(count, holes int, others ...int) [][]int {
	var cs [][]int
	in := func(pigeon, hole int) int { return pigeon*holes + hole + 1 }
	for p := range count {
		c := slices.Clone(others)
		for h := range holes {
			c = append(c, in(p, h))
			for q := range p {
				cs = append(cs, append([]int{-in(p, h), -in(q, h)}, others...))
			}
		}
		cs = append(cs, c)
	}
	return cs
}

func units(literals ...int) [][]int {
	var cs [][]int
	for _, n := range literals {
		cs = append(cs, []int{n})
	}
	return cs
}

// hasModel goes through all models of n variables.
func hasModel(n int, cs [][]int) bool {
	model := make([]bool, n)
	for i := range 1 << n {
		for v := range model {
			model[v] = i>>v&1 == 1
		}
		if clause.All(cs, model) {
			return true
		}
	}
	return false
}

func negations(literals []int) []int {
	c := make([]int, len(literals))
	for i, n := range literals {
		c[i] = -n
	}
	return c
}

func equal(a, b [][]int) bool {
	return slices.EqualFunc(a, b, slices.Equal[[]int])
}

func equalLines(a, b []api.Line) bool {
	return slices.EqualFunc(a, b, func(l, m api.Line) bool {
		return l.Delete == m.Delete && slices.Equal(l.Clause, m.Clause)
	})
}

// checker has the clauses that are present while a proof is gone through.
type checker struct {
	cs     [][]int // nil for those that were deleted
	where  [][]int // by literal plus vars: the places of the clauses that have it
	single []int   // the places of those with at most one literal
	vars   int
}

func newChecker(vars int) *checker {
	return &checker{where: make([][]int, 2*vars+1), vars: vars}
}

func (k *checker) add(c []int) {
	norm, _ := clause.Norm(c)
	place := len(k.cs)
	k.cs = append(k.cs, append([]int{}, norm...))
	for _, n := range norm {
		k.where[n+k.vars] = append(k.where[n+k.vars], place)
	}
	if len(norm) < 2 {
		k.single = append(k.single, place)
	}
}

func (k *checker) remove(c []int) bool {
	if len(c) == 0 {
		return false
	}
	for _, place := range k.where[c[0]+k.vars] {
		if k.cs[place] != nil && slices.Equal(k.cs[place], c) {
			k.cs[place] = nil
			return true
		}
	}
	return false
}

// follows reports whether unit propagation with the literals of c false leads to a conflict.
func (k *checker) follows(c []int) bool {
	holds := make([]bool, len(k.where))
	var due []int
	assume := func(n int) bool {
		if !holds[n+k.vars] {
			holds[n+k.vars] = true
			due = append(due, n)
		}
		return !holds[-n+k.vars]
	}
	look := func(place int) bool {
		cl := k.cs[place]
		left, last := 0, 0
		for _, n := range cl {
			if holds[n+k.vars] {
				return true
			}
			if !holds[-n+k.vars] {
				left, last = left+1, n
			}
		}
		return cl == nil || left > 1 || left == 1 && assume(last)
	}
	for _, n := range c {
		if !assume(-n) {
			return true
		}
	}
	for _, place := range k.single {
		if !look(place) {
			return true
		}
	}
	for i := 0; i < len(due); i++ {
		for _, place := range k.where[-due[i]+k.vars] {
			if !look(place) {
				return true
			}
		}
	}
	return false
}

// accept goes through lines, each of which has to be correct.
func (k *checker) accept(t *testing.T, lines []api.Line) {
	t.Helper()
	for i, l := range lines {
		norm, tautology := clause.Norm(l.Clause)
		if tautology || !slices.Equal(norm, l.Clause) {
			t.Fatalf("line %d is not in its normal form: %v", i, l)
		}
		if l.Delete {
			if !k.remove(l.Clause) {
				t.Fatalf("line %d deletes what is not present: %v", i, l)
			}
			continue
		}
		if !k.follows(l.Clause) {
			t.Fatalf("line %d does not follow: %v", i, l)
		}
		k.add(l.Clause)
	}
}

// checkProof goes through all of the proof, and looks at its last line after Unsat.
func checkProof(t *testing.T, s *Solver) {
	t.Helper()
	k := newChecker(s.Vars())
	for _, c := range s.Clauses() {
		k.add(c)
	}
	k.accept(t, s.Proof())
	checkLastLine(t, s)
}

func checkLastLine(t *testing.T, s *Solver) {
	t.Helper()
	goal, tautology := clause.Norm(negations(s.Core()))
	if tautology {
		return
	}
	lines := s.Proof()
	if len(lines) == 0 || lines[len(lines)-1].Delete || !slices.Equal(lines[len(lines)-1].Clause, goal) {
		t.Fatalf("the last line of %v is not %v", lines, goal)
	}
}
