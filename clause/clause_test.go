package clause

import (
	"math"
	"slices"
	"testing"

	"weirgate/api"
)

// lists returns all lists of at most length numbers from -most to most.
func lists(length, most int) [][]int {
	all := [][]int{nil}
	for from := 0; length > 0; length-- {
		to := len(all)
		for _, l := range all[from:to] {
			for n := -most; n <= most; n++ {
				all = append(all, append(slices.Clone(l), n))
			}
		}
		from = to
	}
	return all
}

// models returns all models of at most length variables.
func models(length int) [][]bool {
	all := [][]bool{nil}
	for from := 0; length > 0; length-- {
		to := len(all)
		for _, m := range all[from:to] {
			all = append(all, append(slices.Clone(m), false), append(slices.Clone(m), true))
		}
		from = to
	}
	return all
}

func allTrue(n int) []bool {
	m := make([]bool, n)
	for i := range m {
		m[i] = true
	}
	return m
}

func notLiterals() []int {
	return []int{0, api.MaxVar + 1, -api.MaxVar - 1, math.MaxInt, math.MinInt, math.MinInt + 1, 1 << 32, 1<<32 + 1, -1<<32 - 1}
}

// P1.1.
func TestRight(t *testing.T) {
	for _, c := range [][]int{nil, {}, {1}, {-1}, {1, -1}, {2, 2}, {api.MaxVar, -api.MaxVar}} {
		if !Right(c) {
			t.Errorf("Right(%v) is false", c)
		}
	}
	for _, n := range notLiterals() {
		for _, c := range [][]int{{n}, {n, 1}, {1, n}, {1, n, -2}} {
			if Right(c) {
				t.Errorf("Right(%v) is true", c)
			}
		}
	}
}

// P1.1.
func TestNorm(t *testing.T) {
	for _, x := range []struct {
		c, norm   []int
		tautology bool
	}{
		{nil, nil, false},
		{[]int{}, nil, false},
		{[]int{3, -1, 3}, []int{-1, 3}, false},
		{[]int{-2, 2}, []int{2, -2}, true},
		{[]int{2, -2}, []int{2, -2}, true},
		{[]int{-2, 2, -2, 2}, []int{2, -2}, true},
		{[]int{-5, 4, -3, 2, -1}, []int{-1, 2, -3, 4, -5}, false},
		{[]int{10, 9, -2, -10}, []int{-2, 9, 10, -10}, true},
		{[]int{1, 2, -1, 3}, []int{1, -1, 2, 3}, true},
		{[]int{-api.MaxVar, 1, api.MaxVar}, []int{1, api.MaxVar, -api.MaxVar}, true},
		{[]int{-api.MaxVar, -api.MaxVar}, []int{-api.MaxVar}, false},
	} {
		norm, tautology := Norm(x.c)
		if !slices.Equal(norm, x.norm) || tautology != x.tautology {
			t.Errorf("Norm(%v) is %v, %v", x.c, norm, tautology)
		}
	}
	for _, n := range notLiterals() {
		for _, c := range [][]int{{n}, {1, -1, n}, {n, 1, -1}, {n, n}} {
			if norm, tautology := Norm(c); len(norm) != 0 || tautology {
				t.Errorf("Norm(%v) is %v, %v", c, norm, tautology)
			}
		}
	}
}

// P1.1: the normal form has, variable by variable, just the literals of the clause.
func TestNormOfAllSmallLists(t *testing.T) {
	for _, c := range lists(4, 3) {
		var want []int
		idle := false
		for v := 1; v <= 3; v++ {
			for _, n := range []int{v, -v} {
				if slices.Contains(c, n) {
					want = append(want, n)
				}
			}
			idle = idle || slices.Contains(c, v) && slices.Contains(c, -v)
		}
		if slices.Contains(c, 0) {
			want, idle = nil, false
		}
		if norm, tautology := Norm(c); !slices.Equal(norm, want) || tautology != idle {
			t.Errorf("Norm(%v) is %v, %v", c, norm, tautology)
		}
	}
}

// P1.2.
func TestHolds(t *testing.T) {
	for _, x := range []struct {
		c     []int
		model []bool
		want  bool
	}{
		{nil, nil, false},
		{nil, []bool{true}, false},
		{[]int{1}, []bool{true}, true},
		{[]int{1}, []bool{false}, false},
		{[]int{-1}, []bool{true}, false},
		{[]int{-1}, []bool{false}, true},
		{[]int{2}, []bool{false, true, false}, true},
		{[]int{2}, []bool{true}, false},
		{[]int{-2}, []bool{true}, true},
		{[]int{1}, nil, false},
		{[]int{-api.MaxVar}, nil, true},
		{[]int{api.MaxVar}, allTrue(api.MaxVar), true},
		{[]int{-api.MaxVar}, allTrue(api.MaxVar), false},
		{[]int{0, 1}, []bool{true}, true},
		{[]int{1, -1}, nil, true},
	} {
		if Holds(x.c, x.model) != x.want {
			t.Errorf("Holds(%v) is not %v", x.c, x.want)
		}
	}
}

// P1.2: not even with a model that is longer than there are variables.
func TestHoldsForNoOtherNumbers(t *testing.T) {
	for _, model := range [][]bool{nil, {true}, {false}, allTrue(api.MaxVar + 2)} {
		for _, n := range notLiterals() {
			if Holds([]int{n}, model) {
				t.Errorf("Holds(%d) is true", n)
			}
		}
	}
}

// P1.2: a clause holds if and only if it says what the model says of one of its variables.
func TestHoldsOfAllSmallLists(t *testing.T) {
	for _, model := range models(3) {
		for _, c := range lists(3, 3) {
			want := false
			for v := 1; v <= 3; v++ {
				if v <= len(model) && model[v-1] {
					want = want || slices.Contains(c, v)
				} else {
					want = want || slices.Contains(c, -v)
				}
			}
			if Holds(c, model) != want {
				t.Errorf("Holds(%v, %v) is not %v", c, model, want)
			}
			if All([][]int{{-9}, c}, model) != want || All([][]int{c, {-9}}, model) != want {
				t.Errorf("All of %v, %v is not %v", c, model, want)
			}
		}
	}
}

// P1.2.
func TestAll(t *testing.T) {
	model := []bool{true, false}
	for _, x := range []struct {
		cs   [][]int
		want bool
	}{
		{nil, true},
		{[][]int{}, true},
		{[][]int{nil}, false},
		{[][]int{{1}, {-2}, {-3}}, true},
		{[][]int{{1}, {2}}, false},
		{[][]int{{2}, {1}}, false},
		{[][]int{{1}, {}}, false},
		{[][]int{{1}, {0}}, false},
		{[][]int{{0, 1}}, true},
	} {
		if All(x.cs, model) != x.want {
			t.Errorf("All(%v) is not %v", x.cs, x.want)
		}
	}
}

// P1.2.
func TestGreatest(t *testing.T) {
	for _, x := range []struct {
		cs   [][]int
		want int
	}{
		{nil, 0},
		{[][]int{nil, {}}, 0},
		{[][]int{{1}}, 1},
		{[][]int{{-4, 3}, {2}}, 4},
		{[][]int{{2}, {1, 8, -5}}, 8},
		{[][]int{{-api.MaxVar}}, api.MaxVar},
		{[][]int{notLiterals()}, 0},
		{[][]int{{3}, notLiterals(), {-6}}, 6},
	} {
		if got := Greatest(x.cs); got != x.want {
			t.Errorf("Greatest(%v) is %d", x.cs, got)
		}
	}
}

// P1.4: neither what a slice shows nor what is behind it may change.
func TestArgumentsStay(t *testing.T) {
	whole := []int{3, -1, 3, 7, 8, 9}
	before := slices.Clone(whole)
	c := whole[:3]
	cs := [][]int{c, {2, -2}}
	model := []bool{true, false, true, true}
	Right(c)
	Norm(c)
	Holds(c, model[:2])
	All(cs, model[:2])
	Greatest(cs)
	Show(cs)
	if !slices.Equal(whole, before) || !slices.Equal(cs[1], []int{2, -2}) || !slices.Equal(model, []bool{true, false, true, true}) {
		t.Errorf("changed: %v, %v, %v", whole, cs[1], model)
	}
}

// P1.4: also where the clause is in its normal form already.
func TestNormIsNew(t *testing.T) {
	c := []int{1, 2}
	norm, _ := Norm(c)
	norm[0] = 5
	again, _ := Norm(c)
	c[1] = 6
	if c[0] != 1 || norm[1] != 2 || !slices.Equal(again, []int{1, 2}) {
		t.Errorf("shared: %v, %v, %v", c, norm, again)
	}
}
