package sat

import (
	"slices"
	"testing"

	"weirgate/api"
	"weirgate/clause"
)

// session is a solver, and all that is known of it otherwise.
type session struct {
	s     *Solver
	cs    [][]int
	check *checker
	lines []api.Line
}

func newSession(t *testing.T, n int) *session {
	t.Helper()
	return &session{s: newSolver(t, n), check: newChecker(n)}
}

func (x *session) add(t *testing.T, c []int) {
	t.Helper()
	addAll(t, x.s, c)
	x.cs = append(x.cs, c)
	x.check.add(c)
}

// solve holds an answer against a search through all models.
func (x *session) solve(t *testing.T, budget int, assume []int) int {
	t.Helper()
	n, before := x.s.Vars(), x.s.Conflicts()
	answer := x.s.Solve(budget, assume...)
	model, core := x.s.Model(), x.s.Core()
	spent := x.s.Conflicts() - before
	if spent < 0 || budget >= 0 && spent > budget {
		t.Fatalf("%d conflicts with budget %d", spent, budget)
	}
	x.acceptLines(t)
	switch answer {
	case api.Sat:
		if len(model) != n || !clause.All(append(units(assume...), x.cs...), model) || len(core) != 0 {
			t.Fatalf("%v with %v: model %v, core %v", x.cs, assume, model, core)
		}
	case api.Unsat:
		if hasModel(n, append(units(assume...), x.cs...)) || len(model) != 0 {
			t.Fatalf("%v with %v: Unsat", x.cs, assume)
		}
		x.checkCore(t, assume, core)
		checkLastLine(t, x.s)
	case api.Unknown:
		if budget < 0 || spent != budget || len(model) != 0 || len(core) != 0 {
			t.Fatalf("%v with %v: Unknown after %d conflicts of %d", x.cs, assume, spent, budget)
		}
	}
	return answer
}

func (x *session) acceptLines(t *testing.T) {
	t.Helper()
	all := x.s.Proof()
	if len(all) < len(x.lines) || !equalLines(all[:len(x.lines)], x.lines) {
		t.Fatalf("the lines were %v, and are %v", x.lines, all)
	}
	x.check.accept(t, all[len(x.lines):])
	x.lines = all
}

func (x *session) checkCore(t *testing.T, assume, core []int) {
	t.Helper()
	norm, _ := clause.Norm(core)
	if !slices.Equal(norm, core) || hasModel(x.s.Vars(), append(units(core...), x.cs...)) {
		t.Fatalf("%v with %v: core %v", x.cs, assume, core)
	}
	for _, n := range core {
		if !slices.Contains(assume, n) {
			t.Fatalf("%v with %v: core %v", x.cs, assume, core)
		}
	}
	if len(core) > 0 && !hasModel(x.s.Vars(), x.cs) {
		t.Fatalf("%v with %v have no model: core %v", x.cs, assume, core)
	}
}

// P3.2 to P3.5: small solvers, used repeatedly.
func TestAgainstAllModels(t *testing.T) {
	count := [3]int{}
	for seed := range 3000 {
		draw := draws(seed)
		n := 1 + draw(6)
		x := newSession(t, n)
		for range 3 + draw(12) {
			for range draw(2 + n) {
				x.add(t, randomClause(draw, n, []int{1, 2, 2, 2, 3, 3, 3, 4}[draw(8)]))
			}
			budget := []int{-1, -1, -1, 0, 1, 2}[draw(6)]
			count[x.solve(t, budget, randomClause(draw, n, draw(n+1)))]++
		}
		if len(x.s.Clauses()) != len(x.cs) {
			t.Fatalf("%d clauses of %d", len(x.s.Clauses()), len(x.cs))
		}
	}
	if slices.Min(count[:]) < 50 {
		t.Errorf("answers: %v", count)
	}
}

// P3.2 to P3.4: harder ones, with longer clauses.
func TestAgainstAllModelsOfMore(t *testing.T) {
	count := [3]int{}
	for seed := range 60 {
		draw := draws(seed + 5000)
		n := 10
		x := newSession(t, n)
		for range 36 {
			x.add(t, randomClause(draw, n, 3))
		}
		for range 8 {
			x.add(t, randomClause(draw, n, 2+draw(3)))
			count[x.solve(t, draw(6)-2, randomClause(draw, n, draw(4)))]++
		}
	}
	if slices.Min(count[:]) < 20 {
		t.Errorf("answers: %v", count)
	}
}

// P3.5: the same calls have the same results.
func TestSameCalls(t *testing.T) {
	run := func() *Solver {
		s := newSolver(t, 120, randomClauses(1, 120, 500)...)
		draw := draws(2)
		for range 30 {
			s.Solve(200, randomClause(draw, 120, 8)...)
			addAll(t, s, randomClause(draw, 120, 4))
		}
		return s
	}
	a, b := run(), run()
	if !equalLines(a.Proof(), b.Proof()) || a.Conflicts() != b.Conflicts() || !slices.Equal(a.Model(), b.Model()) || !slices.Equal(a.Core(), b.Core()) {
		t.Error("different results")
	}
	checkLines(t, a)
}

func checkLines(t *testing.T, s *Solver) {
	t.Helper()
	k := newChecker(s.Vars())
	for _, c := range s.Clauses() {
		k.add(c)
	}
	k.accept(t, s.Proof())
}

// P3.2 and P3.4: more conflicts than there is room for learned clauses, so that some are deleted.
func TestPigeons(t *testing.T) {
	s := newSolver(t, 8*7, pigeons(8, 7)...)
	if s.Solve(-1) != api.Unsat || len(s.Core()) != 0 {
		t.Errorf("core %v", s.Core())
	}
	if !slices.ContainsFunc(s.Proof(), func(l api.Line) bool { return l.Delete }) {
		t.Error("nothing was deleted")
	}
	checkProof(t, s)
	s = newSolver(t, 8*8, pigeons(8, 8)...)
	if s.Solve(-1) != api.Sat || !clause.All(s.Clauses(), s.Model()) {
		t.Error("no model of as many holes")
	}
}

// P3.2 to P3.4: random clauses, as many as leave it open.
func TestRandom(t *testing.T) {
	count := [3]int{}
	for seed := range 12 {
		cs := randomClauses(seed, 150, 640)
		s := newSolver(t, 150, cs...)
		for _, assume := range [][]int{{3, -7, 20}, nil} {
			answer := s.Solve(-1, assume...)
			count[answer]++
			if answer == api.Unsat {
				checkLastLine(t, s)
			} else if answer != api.Sat || !clause.All(append(units(assume...), cs...), s.Model()) {
				t.Errorf("seed %d: answer %d", seed, answer)
			}
		}
		checkLines(t, s)
	}
	if count[api.Sat] == 0 || count[api.Unsat] == 0 {
		t.Errorf("answers: %v", count)
	}
}

// P3.3 and P3.4: that the clauses have a model may take a search of its own; its lines do not come last.
func TestCoreOfHard(t *testing.T) {
	confirmed := 0
	for seed := range 12 {
		cs := randomClauses(seed, 150, 640)
		s := newSolver(t, 151, append(cs, []int{-151})...)
		if s.Solve(0, 151) == api.Sat || s.Conflicts() != 0 || s.Solve(-1, 2, 151) != api.Unsat {
			t.Errorf("seed %d: a model with 151, or %d conflicts", seed, s.Conflicts())
		}
		checkLastLine(t, s)
		checkLines(t, s)
		core := s.Core()
		if s.Solve(-1) == api.Sat != (len(core) > 0) || len(core) > 0 && !slices.Equal(core, []int{151}) {
			t.Errorf("seed %d: core %v", seed, core)
		}
		if len(core) > 0 && len(s.Proof()) > 1 {
			confirmed++
		}
	}
	if confirmed == 0 {
		t.Error("nothing had to be confirmed")
	}
}

// P3.4: a learned clause may be that of a core; if the search that confirms the core deletes it, the last line still follows.
func TestCoreOfDeleted(t *testing.T) {
	var assume []int
	for v := 211; v <= 240; v++ {
		assume = append(assume, v)
	}
	deleted := false
	for seed := 0; seed < 8 && !deleted; seed++ {
		// The pigeons' variables come first, so that a core is found ahead of the rest.
		cs := append(pigeons(3, 2, negations(assume)...), shift(randomClauses(seed, 200, 840), 6)...)
		s := newSolver(t, 240, cs...)
		if s.Solve(-1, assume...) != api.Unsat {
			t.Errorf("seed %d: a model", seed)
		}
		checkLastLine(t, s)
		if slices.Equal(s.Core(), assume) && slices.ContainsFunc(s.Proof(), func(l api.Line) bool {
			return l.Delete && slices.Equal(l.Clause, negations(assume))
		}) {
			deleted = true
			checkLines(t, s)
		}
	}
	if !deleted {
		t.Error("no core's clause was deleted")
	}
}

func shift(cs [][]int, by int) [][]int {
	for _, c := range cs {
		for i, n := range c {
			if n < 0 {
				c[i] = n - by
			} else {
				c[i] = n + by
			}
		}
	}
	return cs
}

// P3.2: many variables, and a long way from the first to the last one.
func TestMostVariables(t *testing.T) {
	s := newSolver(t, api.MaxVar)
	for v := 1; v < api.MaxVar; v++ {
		addAll(t, s, []int{-v, v + 1})
	}
	if s.Solve(-1, 1) != api.Sat || slices.Contains(s.Model(), false) {
		t.Error("not all variables are true")
	}
	if s.Solve(-1, 5, -api.MaxVar, -6) != api.Unsat {
		t.Error("a model with 5 and not 6")
	}
	checkProof(t, s)
	addAll(t, s, []int{-1, -api.MaxVar}, []int{1, 2}, []int{-api.MaxVar + 1, -2, 1})
	if s.Solve(-1) != api.Unsat || len(s.Core()) != 0 {
		t.Errorf("core %v", s.Core())
	}
	checkProof(t, s)
}

// The lengths of the searches between restarts.
func TestLuby(t *testing.T) {
	for i, want := range []int{1, 1, 2, 1, 1, 2, 4, 1, 1, 2, 1, 1, 2, 4, 8, 1, 1, 2} {
		if got := luby(i + 1); got != want {
			t.Errorf("luby(%d) is %d, not %d", i+1, got, want)
		}
	}
}
