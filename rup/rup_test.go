package rup_test

import (
	"math"
	"slices"
	"testing"

	"weirgate/api"
	"weirgate/clause"
	"weirgate/rup"
)

func notLiterals() []int {
	return []int{0, api.MaxVar + 1, -api.MaxVar - 1, math.MaxInt, math.MinInt, math.MinInt + 1, 1 << 32, 1<<32 + 1, -1<<32 - 1}
}

// P4.1.
func TestFollows(t *testing.T) {
	all := [][]int{{1, 2}, {1, -2}, {-1, 2}, {-1, -2}}
	for _, x := range []struct {
		cs   [][]int
		c    []int
		want bool
	}{
		// the chapter's example
		{[][]int{{1, 2}, {-1, 2}}, []int{2}, true},
		{[][]int{{1, 2}, {-1, 2}}, []int{-2}, false},
		{[][]int{{1, 2}, {-1, 2}}, []int{1}, false},
		{[][]int{{1, 2}, {-1, 2}}, nil, false},
		// without clauses
		{nil, nil, false},
		{nil, []int{1}, false},
		{nil, []int{1, 2, 1}, false},
		{nil, []int{1, -1}, true},
		{[][]int{}, []int{3, 2, 1, -3}, true},
		// the empty clause
		{[][]int{nil}, nil, true},
		{[][]int{{}}, []int{9}, true},
		{[][]int{{7}, {}}, []int{-7}, true},
		// a clause that is present, a part of it, and more than it
		{[][]int{{1, -2, 3}}, []int{3, 1, -2}, true},
		{[][]int{{1, -2, 3}}, []int{1, -2}, false},
		{[][]int{{1, -2, 3}}, []int{3, 1, 4, -2}, true},
		{[][]int{{1, -2, 3}}, []int{1, 2, 3}, false},
		{[][]int{{1}}, []int{1}, true},
		{[][]int{{1}}, []int{-1}, false},
		{[][]int{{1}}, []int{2, 1}, true},
		{[][]int{{1}}, nil, false},
		// a literal and its negation are both true
		{[][]int{{1}, {-1}}, nil, true},
		{[][]int{{1}, {-1}}, []int{5}, true},
		{[][]int{{-3}, {3, 2}, {-2, 1}}, []int{1}, true},
		{[][]int{{-3}, {3, 2}, {-2, 1}}, []int{3}, false},
		// it does not follow from single clauses, though it is true in all models
		{all, nil, false},
		{all, []int{3}, false},
		{all, []int{1}, true},
		{all, []int{-2}, true},
		{append(slices.Clone(all), []int{-1}), nil, true},
		// nor if it may be added without harm
		{[][]int{{1, 2}}, []int{3}, false},
		{[][]int{{1, 2}}, []int{-1}, false},
		// far away
		{[][]int{{-api.MaxVar, 1}, {api.MaxVar, 1}}, []int{1}, true},
		{[][]int{{-api.MaxVar, 1}, {api.MaxVar - 1, 1}}, []int{1}, false},
		{[][]int{{-api.MaxVar}}, []int{-api.MaxVar}, true},
		{[][]int{{1}}, []int{api.MaxVar}, false},
		{[][]int{{1}}, []int{-api.MaxVar, api.MaxVar}, true},
	} {
		if rup.Follows(x.cs, x.c) != x.want {
			t.Errorf("Follows(%v, %v) is not %v", x.cs, x.c, x.want)
		}
	}
}

// P4.1: a literal counts once, a literal and its negation are two, unless they are determined.
func TestFollowsFromClausesThatRepeat(t *testing.T) {
	for _, x := range []struct {
		cs   [][]int
		c    []int
		want bool
	}{
		{[][]int{{1, 1}}, []int{1}, true},
		{[][]int{{1, 1}, {-1, 2}}, []int{2}, true},
		{[][]int{{1, 1}, {-1, -1, -1}}, nil, true},
		{[][]int{{3, 3, 3, 1, 3}, {-3, 2}}, []int{1, 2}, true},
		{[][]int{{1, 2, 1, 2}}, []int{1}, false},
		{[][]int{{1, 2}}, []int{1, 1, 2, 2, 1}, true},
		{[][]int{{1, -1}}, nil, false},
		{[][]int{{1, -1}}, []int{1}, false},
		{[][]int{{1, -1}}, []int{-1}, false},
		{[][]int{{1, -1, 1}}, []int{2}, false},
		{[][]int{{1, -1, 2}}, []int{2}, false},
		{[][]int{{1}, {1, -1, 2}}, []int{2}, false},
		{[][]int{{-1}, {1, -1, 2}}, []int{2}, false},
		{[][]int{{1, -1, 2}, {-2}}, nil, false},
		{[][]int{{1, -1, 2}, {-2}}, []int{1}, false},
		{[][]int{{1, -1}, {1, 2}, {-1, 2}}, []int{2}, true},
		{[][]int{{1, -1}, {-1, 2}, {1, 3}}, []int{2, 3}, true},
		{[][]int{{1, -1}, {1}, {-1}}, nil, true},
	} {
		if rup.Follows(x.cs, x.c) != x.want {
			t.Errorf("Follows(%v, %v) is not %v", x.cs, x.c, x.want)
		}
	}
}

// P4.1: false, even of a tautology, and even if the other clauses lead to a conflict.
func TestFollowsOfWrongClauses(t *testing.T) {
	for _, n := range notLiterals() {
		for _, x := range []struct {
			cs [][]int
			c  []int
		}{
			{[][]int{{1}}, []int{1, n}},
			{[][]int{{1}}, []int{n, 1}},
			{[][]int{{1}}, []int{1, -1, n}},
			{[][]int{nil}, []int{n}},
			{[][]int{nil, {n}}, []int{1}},
			{[][]int{{n}, nil}, []int{1}},
			{[][]int{{n}}, []int{1, -1}},
			{[][]int{{1}, {2, n}}, []int{1}},
			{[][]int{{n, 2}, {1}, {-1}}, nil},
			{[][]int{{2, -2, n}, {1}}, []int{1}},
		} {
			if rup.Follows(x.cs, x.c) {
				t.Errorf("Follows(%v, %v) is true", x.cs, x.c)
			}
		}
	}
}

// P4.1: just what the words of the chapter say.
func TestFollowsOfManyClauses(t *testing.T) {
	count := map[bool]int{}
	for seed := range 20000 {
		draw := draws(seed)
		vars := 2 + draw(6)
		cs := randomClauses(draw, vars, 4, draw(4*vars))
		c := randomClause(draw, vars, 3)
		want := plainFollows(cs, c)
		count[want]++
		if rup.Follows(cs, c) != want {
			t.Fatalf("Follows(%v, %v) is not %v", cs, c, want)
		}
	}
	if count[true] < 1000 || count[false] < 1000 {
		t.Errorf("too few of a kind: %v", count)
	}
}

// P4.1: as far as it takes, in whatever order the clauses are.
func TestFollowsFarAway(t *testing.T) {
	const far = 2000
	cs := chain(far)
	for range 2 {
		if !rup.Follows(cs, []int{-1, far}) || !rup.Follows(append(slices.Clone(cs), []int{1}, []int{-far}), nil) {
			t.Error("the last one does not follow")
		}
		if rup.Follows(cs, []int{1, -far}) || rup.Follows(cs, []int{far}) || rup.Follows(cs[:far-2], []int{-1, far}) || rup.Follows(cs[1:], []int{-1, far}) {
			t.Error("too much follows")
		}
		slices.Reverse(cs)
		cs[0], cs[far-2] = cs[far-2], cs[0]
	}
	var wide []int
	for v := 1; v <= far; v++ {
		wide = append(wide, -v)
	}
	if !rup.Follows([][]int{wide}, wide) || rup.Follows([][]int{wide}, wide[1:]) || rup.Follows([][]int{wide}, wide[:far-1]) {
		t.Error("a wide clause")
	}
}

// P4.3.
func TestModel(t *testing.T) {
	cs := [][]int{{1, 2}, {-2, 3, -2}, {4, -4}}
	model := []bool{true, false, true, false}
	for _, x := range []struct {
		cs     [][]int
		model  []bool
		assume []int
		want   bool
	}{
		{nil, nil, nil, true},
		{[][]int{}, model, []int{}, true},
		{[][]int{nil}, model, nil, false},
		{[][]int{{1}, {}}, model, nil, false},
		{cs, model, nil, true},
		{cs, model, []int{1}, true},
		{cs, model, []int{1, -2, 3, -4, 1}, true},
		{cs, model, []int{-1}, false},
		{cs, model, []int{2}, false},
		{cs, model, []int{1, -2, 4}, false},
		{cs, model, []int{-3, 1}, false},
		{cs, model, []int{1, -1}, false},
		{cs, []bool{false, true, false}, nil, false},
		{cs, []bool{false, false, true}, nil, false},
		{cs, []bool{false, true, true}, nil, true},
		// variables beyond the model are false
		{cs, []bool{true}, nil, true},
		{cs, []bool{true}, []int{-3, -api.MaxVar}, true},
		{cs, []bool{true}, []int{3}, false},
		{cs, []bool{true}, []int{api.MaxVar}, false},
		{cs, nil, nil, false},
		{[][]int{{-1}}, nil, []int{-1}, true},
		{nil, nil, []int{1}, false},
		{nil, nil, []int{-1}, true},
		{nil, model, []int{3}, true},
	} {
		if rup.Model(x.cs, x.model, x.assume...) != x.want {
			t.Errorf("Model(%v, %v, %v) is not %v", x.cs, x.model, x.assume, x.want)
		}
	}
}

// P4.3: whatever the other literals, clauses and assumptions say, and however long the model is.
func TestModelOfWrongInputs(t *testing.T) {
	long := slices.Repeat([]bool{true}, api.MaxVar+2)
	for _, model := range [][]bool{nil, {true}, long, make([]bool, api.MaxVar+2)} {
		for _, n := range notLiterals() {
			for _, cs := range [][][]int{{{1, -1, n}}, {{n, -1, 1}}, {{n}}, {{2, -2}, {n, 1, -1}}, {{1, -1, n}, {2, -2}}} {
				if rup.Model(cs, model) {
					t.Errorf("Model(%v) is true", cs)
				}
			}
			holding := -2
			if len(model) > 2 && model[1] {
				holding = 2
			}
			for _, assume := range [][]int{{n}, {n, holding}, {holding, n}} {
				if rup.Model([][]int{{1, -1}}, model, assume...) {
					t.Errorf("Model with %v is true", assume)
				}
			}
			if !rup.Model([][]int{{1, -1}}, model, holding) {
				t.Errorf("Model with %v is false", holding)
			}
		}
	}
}

// P4.3.
func TestModelOfManyClauses(t *testing.T) {
	for seed := range 3000 {
		draw := draws(seed)
		vars := 1 + draw(4)
		cs := randomClauses(draw, vars, 4, draw(5))
		assume := randomClause(draw, vars, 2)
		for _, model := range models(vars) {
			want := clause.All(cs, model)
			for _, n := range assume {
				want = want && model[max(n, -n)-1] == (n > 0)
			}
			if rup.Model(cs, model, assume...) != want {
				t.Fatalf("Model(%v, %v, %v) is not %v", cs, model, assume, want)
			}
		}
	}
}

// P4.4: neither what a slice shows nor what is behind it may change.
func TestArgumentsStay(t *testing.T) {
	const spare = 77
	guarded := func(c ...int) []int {
		return append(slices.Clone(c), spare, -spare, spare)[:len(c)]
	}
	cs := [][]int{guarded(3, -1, 3), guarded(2, -2), guarded(1), guarded(-3, 2, -4), guarded(), guarded(1), nil}[:6]
	proof := lines(add(guarded(3, 3)...), remove(guarded(3, -1)...), add(guarded(-4, 2)...), remove(guarded(1)...), remove(guarded()...), add(guarded(2, 1, -4)...), remove(guarded(0)...))[:6]
	goal := guarded(2, -4, 2)
	assume := guarded(1, 2)
	model := []bool{true, true, true, true, false}[:4]
	whole := func() [][]int {
		all := [][]int{goal[:cap(goal)], assume[:cap(assume)]}
		for _, c := range cs {
			all = append(all, c[:cap(c)])
		}
		for _, l := range proof {
			all = append(all, l.Clause[:cap(l.Clause)])
		}
		for i := range all {
			all[i] = slices.Clone(all[i])
		}
		return all
	}
	before := whole()
	for range 2 {
		if rup.Check(cs, proof, goal) != 0 || !rup.Follows(cs[:4], goal) || rup.Follows(cs[:4], goal[:0]) || rup.Model(cs, model, assume...) || !rup.Model(cs[:4], model, assume...) {
			t.Error("a wrong result")
		}
		rup.Check(cs[:3], proof, goal)
		if !slices.EqualFunc(before, whole(), slices.Equal[[]int]) || cs[:7][6] != nil || !proof[:7][6].Delete || model[:5][4] || slices.Contains(model, false) {
			t.Fatalf("changed: %v", whole())
		}
	}
}
