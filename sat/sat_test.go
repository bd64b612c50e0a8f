package sat

import (
	"math"
	"slices"
	"testing"

	"weirgate/api"
	"weirgate/clause"
)

// P3.1.
func TestNew(t *testing.T) {
	for _, n := range []int{-1, -2, api.MaxVar + 1, 1 << 32, math.MaxInt, math.MinInt} {
		if s, e := New(n); s != nil || e != api.ErrArg {
			t.Errorf("New(%d) is %v, %v", n, s, e)
		}
	}
	for _, n := range []int{0, 1, 7, api.MaxVar} {
		s := newSolver(t, n)
		if s.Vars() != n || len(s.Clauses()) != 0 || len(s.Proof()) != 0 || len(s.Model()) != 0 || len(s.Core()) != 0 || s.Conflicts() != 0 {
			t.Errorf("New(%d): %d variables, %v", n, s.Vars(), s.Clauses())
		}
	}
}

func notLiterals(n int) []int {
	return []int{0, n + 1, -n - 1, math.MaxInt, math.MinInt, math.MinInt + 1, 1 << 32, 1<<32 + 1, -1<<32 - 1}
}

// P3.1: a wrong clause has no effect.
func TestAddWrong(t *testing.T) {
	for _, n := range []int{0, 2, api.MaxVar} {
		s := newSolver(t, n)
		for _, wrong := range notLiterals(n) {
			for _, c := range [][]int{{wrong}, {wrong, wrong}, {wrong, -wrong}} {
				if e := s.Add(c); e != api.ErrArg {
					t.Errorf("Add(%v) of %d is %v", c, n, e)
				}
			}
			if n > 0 && (s.Add([]int{1, wrong}) != api.ErrArg || s.Add([]int{wrong, -1}) != api.ErrArg) {
				t.Errorf("Add of %d and a literal", wrong)
			}
		}
		if len(s.Clauses()) != 0 || s.Solve(-1) != api.Sat || len(s.Model()) != n {
			t.Errorf("of %d: %v", n, s.Clauses())
		}
	}
}

// P3.1: in order, in the normal form, as often as added.
func TestClauses(t *testing.T) {
	s := newSolver(t, 5)
	given := [][]int{{3, -1, 3}, {2, -2, 2}, nil, {5}, {5}, {-5}, {}, {-4, -5, 4, 1}}
	want := [][]int{{-1, 3}, {2, -2}, nil, {5}, {5}, {-5}, nil, {1, 4, -4, -5}}
	for i, c := range given {
		if e := s.Add(c); e != api.OK || !equal(s.Clauses(), want[:i+1]) {
			t.Errorf("after Add(%v): %v, %v", c, e, s.Clauses())
		}
	}
	s.Solve(-1, 1)
	if !equal(s.Clauses(), want) {
		t.Errorf("after Solve: %v", s.Clauses())
	}
}

// P3.1: ErrBig from 400000 clauses on, but ErrArg ahead of it.
func TestMostClauses(t *testing.T) {
	s := newSolver(t, 3)
	for i := range api.MaxClause {
		if e := s.Add([]int{-1 - i%2, 3}); e != api.OK {
			t.Fatalf("Add number %d is %v", i, e)
		}
	}
	for range 2 {
		if e := s.Add([]int{-3}); e != api.ErrBig {
			t.Errorf("Add is %v", e)
		}
		if e := s.Add([]int{4}); e != api.ErrArg {
			t.Errorf("Add of a wrong one is %v", e)
		}
	}
	if n := len(s.Clauses()); n != api.MaxClause || s.Solve(-1, 1) != api.Sat || !s.Model()[2] {
		t.Errorf("%d clauses, model %v", n, s.Model())
	}
}

// P3.2: the chapter's example, and P3.4.
func TestExample(t *testing.T) {
	s := newSolver(t, 2, []int{1, 2}, []int{-1})
	if s.Solve(-1) != api.Sat || !slices.Equal(s.Model(), []bool{false, true}) || len(s.Core()) != 0 {
		t.Errorf("model %v", s.Model())
	}
	addAll(t, s, []int{-2})
	if s.Solve(-1) != api.Unsat || len(s.Core()) != 0 || len(s.Model()) != 0 || !equalLines(s.Proof(), []api.Line{{}}) {
		t.Errorf("proof %v", s.Proof())
	}
}

// P3.2: without variables, without clauses, with the empty clause.
func TestSmallest(t *testing.T) {
	s := newSolver(t, 0)
	if s.Solve(0) != api.Sat || len(s.Model()) != 0 || s.Solve(0, 1) != api.Unknown {
		t.Error("without variables")
	}
	addAll(t, s, nil)
	for range 2 {
		if s.Solve(0) != api.Unsat || len(s.Core()) != 0 || s.Conflicts() != 0 {
			t.Error("the empty clause has a model")
		}
		checkProof(t, s)
	}
	s = newSolver(t, 3)
	if s.Solve(0) != api.Sat || len(s.Model()) != 3 || s.Solve(0, 2, -3) != api.Sat || !s.Model()[1] || s.Model()[2] {
		t.Errorf("model %v", s.Model())
	}
}

// P3.2: Unknown for numbers that are not literals, wherever they are and whatever the clauses; it has no effect.
func TestWrongAssumptions(t *testing.T) {
	for _, cs := range [][][]int{nil, {{1, 2}}, {{1}, {-1}}, {nil}} {
		s := newSolver(t, 3, cs...)
		answer := s.Solve(-1)
		lines, conflicts := s.Proof(), s.Conflicts()
		for _, wrong := range notLiterals(3) {
			for _, assume := range [][]int{{wrong}, {wrong, 1}, {1, wrong}, {1, -1, wrong}} {
				if s.Solve(-1, assume...) != api.Unknown || len(s.Model()) != 0 || len(s.Core()) != 0 {
					t.Errorf("Solve with %v of %v", assume, cs)
				}
			}
		}
		if !equalLines(s.Proof(), lines) || s.Conflicts() != conflicts || s.Solve(-1) != answer {
			t.Errorf("an effect on %v", cs)
		}
	}
}

// P3.2: the conflict of two clauses under one decision is the only one that is counted.
func TestBudget(t *testing.T) {
	cs := [][]int{{1, 2}, {1, -2}, {-1, 2}, {-1, -2}}
	for _, budget := range []int{-1, 1, 2, math.MaxInt, math.MinInt} {
		s := newSolver(t, 2, cs...)
		for range 3 {
			if s.Solve(0) != api.Unknown || s.Conflicts() != 0 || len(s.Model()) != 0 || len(s.Core()) != 0 {
				t.Errorf("with budget 0: %d conflicts", s.Conflicts())
			}
		}
		for range 3 {
			if s.Solve(budget) != api.Unsat || s.Conflicts() != 1 {
				t.Errorf("with budget %d: %d conflicts", budget, s.Conflicts())
			}
		}
		if s.Solve(0) != api.Unsat {
			t.Error("with budget 0, when it is known")
		}
		checkProof(t, s)
	}
}

// P3.2: with budget 0 the answer is returned if it follows without a conflict.
func TestBudgetOfNone(t *testing.T) {
	for _, x := range []struct {
		cs      [][]int
		assume  []int
		answer  int
		core    []int
		budget1 int
	}{
		{[][]int{{1}, {-1}}, nil, api.Unsat, nil, api.Unsat},
		{[][]int{{1}, {-1, 2}, {-2, 3}, {-3, -1}}, nil, api.Unsat, nil, api.Unsat},
		{[][]int{{1}, {-1, 2}, {-2, 3}, {-3, -1}}, []int{4}, api.Unsat, nil, api.Unsat},
		{[][]int{{-1}}, []int{1}, api.Unsat, []int{1}, api.Unsat},
		{[][]int{{-1, 2}, {-2, 3}}, []int{4, -3, 1}, api.Unsat, []int{1, -3}, api.Unsat},
		{[][]int{{-1, 2}, {-2, 3}}, []int{1, 1, 2}, api.Sat, nil, api.Sat},
		{[][]int{{1, 2}, {1, -2}}, []int{1}, api.Sat, nil, api.Sat},
		{[][]int{{-1, 2}, {-1, -2}}, []int{1}, api.Unknown, nil, api.Unsat},
		{nil, []int{2, -2}, api.Unsat, []int{2, -2}, api.Unsat},
	} {
		s := newSolver(t, 4, x.cs...)
		if got := s.Solve(0, x.assume...); got != x.answer || !slices.Equal(s.Core(), x.core) || s.Conflicts() != 0 {
			t.Errorf("%v with %v: %d, %v, %d conflicts", x.cs, x.assume, got, s.Core(), s.Conflicts())
		}
		if got := s.Solve(1, x.assume...); got != x.budget1 {
			t.Errorf("%v with %v and budget 1: %d", x.cs, x.assume, got)
		}
	}
}

// P3.2: never more conflicts than the budget, and an answer if it is large enough.
func TestBudgetIsKept(t *testing.T) {
	all := newSolver(t, 30, pigeons(6, 5)...)
	if all.Solve(-1) != api.Unsat || all.Conflicts() < 10 {
		t.Fatalf("%d conflicts", all.Conflicts())
	}
	need := all.Conflicts()
	for _, budget := range []int{0, 1, 2, need / 2, need - 1, need, need + 1} {
		s := newSolver(t, 30, pigeons(6, 5)...)
		want, conflicts := api.Unknown, budget
		if budget >= need {
			want, conflicts = api.Unsat, need
		}
		if got := s.Solve(budget); got != want || s.Conflicts() != conflicts {
			t.Errorf("budget %d of %d: %d, %d conflicts", budget, need, got, s.Conflicts())
		}
		if want == api.Unsat {
			continue
		}
		before := s.Conflicts()
		if got := s.Solve(3, 1); got != api.Unknown && got != api.Unsat || s.Conflicts() > before+3 {
			t.Errorf("budget 3 later: %d, %d conflicts", got, s.Conflicts()-before)
		}
		if s.Solve(-1) != api.Unsat {
			t.Error("no answer without a limit")
		}
		checkProof(t, s)
	}
}

// P3.3: a core is in ascending order, each assumption once, whatever their order.
func TestCore(t *testing.T) {
	cs := [][]int{{-3, 5}, {-5, 7, -1}}
	for _, assume := range [][]int{{1, 3, -7}, {-7, 3, 1}, {3, 1, 3, -7, 1}, {2, 3, 4, -7, 6, 8, 1}, {-2, -7, 5, 3, 1}} {
		s := newSolver(t, 8, cs...)
		if s.Solve(-1, assume...) != api.Unsat || len(s.Model()) != 0 {
			t.Errorf("with %v", assume)
		}
		core := s.Core()
		variables := slices.Clone(core)
		for i, n := range core {
			variables[i] = max(n, -n)
			if !slices.Contains(assume, n) {
				t.Errorf("core %v of %v", core, assume)
			}
		}
		if !slices.IsSorted(variables) || len(slices.Compact(variables)) != len(core) || hasModel(8, append(units(core...), cs...)) {
			t.Errorf("core %v of %v", core, assume)
		}
		checkProof(t, s)
	}
}

// P3.3 and P3.4: assumptions that contradict each other need no line.
func TestOppositeAssumptions(t *testing.T) {
	s := newSolver(t, 3, []int{1, 2}, []int{-1, 3}, []int{-2, 3})
	for _, assume := range [][]int{{1, -1}, {-1, 1}, {2, 1, -1}, {-1, 2, 1, 1}} {
		if s.Solve(-1, assume...) != api.Unsat || !slices.Equal(s.Core(), []int{1, -1}) || len(s.Proof()) != 0 {
			t.Errorf("with %v: core %v, proof %v", assume, s.Core(), s.Proof())
		}
	}
	if s.Solve(-1) != api.Sat || len(s.Core()) != 0 {
		t.Errorf("without: core %v", s.Core())
	}
}

// P3.3: if the clauses have no model, no assumption is named, however directly the assumptions contradict the clauses or each other.
func TestCoreOfNoModel(t *testing.T) {
	n := 6*5 + 2
	for _, assume := range [][]int{nil, {1}, {-1}, {n}, {n, -n}, {-n, 1, n}, {n - 1}, {1, 2, 3, 4, 5, 6}, {n, 1, 6}} {
		s := newSolver(t, n, append(pigeons(6, 5), []int{-n + 1})...)
		if s.Solve(-1, assume...) != api.Unsat || len(s.Core()) != 0 {
			t.Errorf("with %v: core %v", assume, s.Core())
		}
		checkProof(t, s)
		lines := s.Proof()
		if s.Solve(0, assume...) != api.Unsat || len(s.Core()) != 0 {
			t.Errorf("with %v again: core %v", assume, s.Core())
		}
		if !equalLines(s.Proof()[:len(lines)], lines) {
			t.Error("the proof's lines changed")
		}
		checkProof(t, s)
	}
}

// P3.3: the same clauses behind a literal that turns them on.
func TestCoreOfGuarded(t *testing.T) {
	n := 7*6 + 1
	s := newSolver(t, n, pigeons(7, 6, -n)...)
	for range 2 {
		if s.Solve(-1, n) != api.Unsat || !slices.Equal(s.Core(), []int{n}) {
			t.Errorf("core %v", s.Core())
		}
		checkProof(t, s)
		if s.Solve(-1) != api.Sat || !clause.All(s.Clauses(), s.Model()) || s.Model()[n-1] {
			t.Errorf("model %v", s.Model())
		}
	}
	addAll(t, s, []int{n, 1})
	if s.Solve(-1, -1) != api.Unsat || !slices.Equal(s.Core(), []int{-1}) {
		t.Errorf("core %v", s.Core())
	}
	checkProof(t, s)
	addAll(t, s, []int{n})
	if s.Solve(-1, 1) != api.Unsat || len(s.Core()) != 0 {
		t.Errorf("core %v", s.Core())
	}
	checkProof(t, s)
}

// P3.5: arguments are neither changed nor kept, results are new.
func TestNothingIsShared(t *testing.T) {
	s := newSolver(t, 4)
	c := append(make([]int, 0, 9), 3, -1, 3)
	addAll(t, s, c)
	if !slices.Equal(c, []int{3, -1, 3}) || !slices.Equal(c[:9], []int{3, -1, 3, 0, 0, 0, 0, 0, 0}) {
		t.Errorf("Add changed %v", c[:9])
	}
	for i := range c {
		c[i] = 4
	}
	addAll(t, s, []int{1, 2}, []int{-2, 3})
	assume := append(make([]int, 0, 9), -3, 4, -3)
	for range 3 {
		if s.Solve(-1, assume...) != api.Unsat || !slices.Equal(s.Core(), []int{-3}) || !slices.Equal(assume[:9], []int{-3, 4, -3, 0, 0, 0, 0, 0, 0}) {
			t.Errorf("core %v of %v", s.Core(), assume[:9])
		}
		if !equal(s.Clauses(), [][]int{{-1, 3}, {1, 2}, {-2, 3}}) {
			t.Errorf("clauses %v", s.Clauses())
		}
		checkProof(t, s)
		spoil(s.Core())
		for _, d := range s.Clauses() {
			spoil(d)
		}
		lines := s.Proof()
		for i := range lines {
			spoil(lines[i].Clause)
			lines[i].Delete = true
		}
		spoil(assume)
		assume = append(assume[:0], -3, 4, -3)
		clear(assume[3:9])
	}
	s.Solve(-1)
	m := s.Model()
	for i := range m {
		m[i] = !m[i]
	}
	if !clause.All(s.Clauses(), s.Model()) || slices.Equal(m, s.Model()) {
		t.Errorf("model %v", s.Model())
	}
}

func spoil(c []int) {
	c = c[:cap(c)]
	for i := range c {
		c[i] = 77
	}
}

// What New returns beside an error, and what it did not make, has no clauses.
func TestNoSolver(t *testing.T) {
	none, _ := New(-1)
	if none.Add(nil) == api.OK || none.Solve(-1) != api.Unknown {
		t.Error("a nil solver has clauses")
	}
	for _, s := range []*Solver{none, {}} {
		if s.Add([]int{1}) == api.OK || s.Solve(-1, 1) != api.Unknown || s.Vars() != 0 || s.Conflicts() != 0 {
			t.Error("a variable of none")
		}
		if len(s.Model()) != 0 || len(s.Core()) != 0 || len(s.Proof()) != 0 || len(s.Clauses()) != 0 {
			t.Error("something of none")
		}
	}
	empty := &Solver{}
	if empty.Solve(-1) != api.Sat || empty.Add(nil) != api.OK || empty.Solve(-1) != api.Unsat {
		t.Error("the empty solver")
	}
}
