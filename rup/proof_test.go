package rup_test

import (
	"slices"
	"testing"

	"weirgate/api"
	"weirgate/clause"
	"weirgate/rup"
	"weirgate/sat"
)

// P4.2.
func TestCheck(t *testing.T) {
	cs := [][]int{{1, 2}, {1, -2}, {-1, 3}, {-3, -1, 4}}
	for _, x := range []struct {
		cs    [][]int
		proof []api.Line
		goal  []int
		want  int
	}{
		// without lines: the chapter's example, and the smallest ones
		{[][]int{{1, 2}, {-1, 2}}, nil, []int{2}, 0},
		{[][]int{{1, 2}, {-1, 2}}, nil, []int{1}, 1},
		{nil, nil, nil, 1},
		{nil, lines(), []int{1}, 1},
		{nil, nil, []int{2, -2}, 0},
		{[][]int{nil}, nil, nil, 0},
		{[][]int{nil}, nil, []int{5}, 0},
		{[][]int{{1, 2, 1}}, nil, []int{2, 2, 1}, 0},
		{[][]int{{1, 2}}, nil, []int{1, 2, 3}, 0},
		{[][]int{{1, 2, 3}}, nil, []int{1, 2}, 1},
		// lines that add
		{cs, nil, []int{4}, 1},
		{cs, lines(add(1)), []int{4}, 0},
		{cs, lines(add(1), add(3), add(4)), []int{4}, 0},
		{cs, lines(add(2)), []int{4}, 1},
		{cs, lines(add(1), add(2), add(-2)), []int{4}, 2},
		{cs, lines(add(1), add(4), add(3), add(2)), []int{4}, 4},
		{cs, lines(add(1), add(4), add(3)), []int{2}, 4},
		{cs, lines(add()), nil, 1},
		{nil, lines(add(5, -5), add(-5, 5)), nil, 3},
		{nil, lines(add(5)), nil, 1},
		{[][]int{{5}, {-5}}, lines(add(), add(7), add(-7)), nil, 0},
		// lines that delete
		{cs, lines(remove(2, 1)), []int{1}, 2},
		{cs, lines(add(1), remove(2, 1)), []int{4}, 0},
		{cs, lines(add(1), remove(1)), []int{4}, 3},
		{cs, lines(add(1), add(1), remove(1)), []int{4}, 0},
		{cs, lines(add(1, 1), remove(1, 1, 1), add(4), add(3)), []int{3}, 3},
		{cs, lines(remove(1, 2), remove(1, 2)), nil, 2},
		{cs, lines(remove(1)), []int{1}, 1},
		{cs, lines(remove(1, 2, 3)), []int{1}, 1},
		{cs, lines(remove(-1, -2)), []int{1}, 1},
		{cs, lines(remove()), []int{1}, 1},
		{cs, lines(add(1), remove(4)), []int{4}, 2},
		{cs, lines(remove(-1, 4, -3), add(1)), []int{4}, 3},
		{cs, lines(remove(-1, 4, -3), add(1)), []int{3}, 0},
		{[][]int{nil}, lines(remove()), nil, 2},
		{[][]int{nil, {}}, lines(remove()), nil, 0},
		{[][]int{nil, {}}, lines(remove(), remove()), nil, 3},
		{[][]int{{1}, {-1}}, lines(add(), remove(1)), nil, 0},
		{[][]int{{1}, {-1}}, lines(add(), remove(1), remove()), nil, 4},
		{[][]int{{1}, {-1}}, lines(add(), remove(1), remove()), []int{-1}, 0},
		// tautologies: there are as many as were added
		{nil, lines(remove(1, -1)), []int{1, -1}, 1},
		{[][]int{{1, -1}}, lines(remove(-1, 1, -1)), []int{1, -1}, 0},
		{[][]int{{1, -1}}, lines(remove(-1, 1), remove(-1, 1)), []int{1, -1}, 2},
		{nil, lines(add(1, -1), remove(-1, 1), remove(1, -1)), []int{1, -1}, 3},
		{[][]int{{1, -1}}, lines(remove(1, -1, 2)), []int{1, -1}, 1},
		// the first line counts, even if there are others
		{cs, lines(add(2), add(0), remove(9)), []int{9}, 1},
		{cs, lines(add(1), remove(9), add(2)), []int{9}, 2},
	} {
		if got := rup.Check(x.cs, x.proof, x.goal); got != x.want {
			t.Errorf("Check(%v, %v, %v) is %d, not %d", x.cs, x.proof, x.goal, got, x.want)
		}
	}
}

// P4.2: of a line it is the line's number, of a clause or the goal -1.
func TestCheckOfWrongClauses(t *testing.T) {
	cs := [][]int{{1}, {-1, 2}}
	for _, n := range notLiterals() {
		for _, c := range [][]int{{n}, {n, n}, {n, 2}, {2, n}, {2, -2, n}, {n, 2, -2}} {
			for _, x := range []struct {
				cs    [][]int
				proof []api.Line
				goal  []int
				want  int
			}{
				{cs, lines(add(c...)), []int{2}, 1},
				{cs, lines(remove(c...)), []int{2}, 1},
				{cs, lines(add(2), add(c...)), []int{2}, 2},
				{cs, lines(add(2), remove(1), remove(c...)), []int{2}, 3},
				{cs, lines(add(2), remove(c...), add(3)), []int{3}, 2},
				{[][]int{nil}, lines(add(c...)), nil, 1},
				{[][]int{nil}, lines(remove(c...)), nil, 1},
				{[][]int{{2}, {2, -2}}, lines(remove(c...)), []int{2}, 1},
				{[][]int{nil}, lines(remove(), add(c...)), nil, 2},
				{[][]int{c}, nil, []int{2, -2}, -1},
				{[][]int{{1}, c}, nil, []int{1}, -1},
				{[][]int{c, {1}, {-1}}, nil, nil, -1},
				{[][]int{nil, c, {}}, nil, nil, -1},
				{cs, nil, c, -1},
				{[][]int{nil}, nil, c, -1},
				{cs, lines(add(2), remove(1)), c, -1},
				{[][]int{c}, nil, c, -1},
			} {
				if got := rup.Check(x.cs, x.proof, x.goal); got != x.want {
					t.Errorf("Check(%v, %v, %v) is %d, not %d", x.cs, x.proof, x.goal, got, x.want)
				}
			}
		}
	}
}

// P4.2: what was found by means of a clause does not stay behind it, and what was assumed for a line does not stay behind the line.
func TestCheckForgets(t *testing.T) {
	for _, x := range []struct {
		cs    [][]int
		proof []api.Line
		goal  []int
		want  int
	}{
		// a literal that was implied by one clause, and is by another one
		{[][]int{{1}, {-1, 2}, {3}, {-3, 2}}, lines(remove(-1, 2)), []int{2}, 0},
		{[][]int{{1}, {-1, 2}, {3}, {-3, 2}}, lines(remove(-1, 2), remove(3)), []int{2}, 3},
		{[][]int{{1}, {-1, 2}, {3}, {-3, 2}}, lines(remove(-3, 2), remove(1)), []int{2}, 3},
		{[][]int{{1}, {1, 2}, {-2}}, lines(remove(1)), []int{1}, 0},
		{[][]int{{1}, {1, 2}, {-2}}, lines(remove(1), remove(-2)), []int{1}, 3},
		// the clauses behind it
		{[][]int{{1}, {-1, 2}, {-2, 3}, {-3, 4}}, lines(remove(1)), []int{4}, 2},
		{[][]int{{1}, {-1, 2}, {-2, 3}, {-3, 4}}, lines(remove(1)), []int{-1, 4}, 0},
		{[][]int{{1}, {-1, 2}, {-2, 3}, {-3, 4}}, lines(add(2), remove(1)), []int{4}, 0},
		{[][]int{{1}, {-1, 2}, {-2, 3}, {-3, 4}}, lines(add(4), remove(-2, 3)), []int{3}, 3},
		{[][]int{{1}, {-1, 2}, {-2, 3}, {-3, 4}}, lines(add(4), remove(-2, 3)), []int{4}, 0},
		// a conflict, and what was added beside it
		{[][]int{{1}, {-1}}, lines(add(2), remove(1)), []int{2}, 0},
		{[][]int{{1}, {-1}}, lines(add(2), remove(1)), []int{1}, 3},
		{[][]int{{1}, {-1}}, lines(add(2), remove(-1), add(1)), []int{-1}, 4},
		{[][]int{{1}, {-1}, {3, 4}}, lines(add(-3, 5), add(-4, 5), add(-5, 6), remove(-1)), []int{5}, 0},
		{[][]int{{1}, {-1}, {3, 4}}, lines(add(-3, 5), add(-4, 5), add(-5, 6), remove(-1), add(6), remove(3, 4)), []int{6}, 0},
		{[][]int{{1}, {-1}, {3, 4}}, lines(add(-3, 5), add(-4, 5), add(-5, 6), remove(1), remove(3, 4)), []int{6}, 6},
		{[][]int{{1}, {-1}, {1, 1}, {-1, -1}}, lines(remove(1), remove(-1)), nil, 0},
		{[][]int{{1}, {-1}, {1, 1}, {-1, -1}}, lines(remove(1), remove(-1), remove(1)), nil, 4},
		{[][]int{{1, 2}, {1, -2}, {-1, 2}, {-1, -2}}, lines(add(1), add(), remove(), remove(1)), nil, 5},
		{[][]int{{1, 2}, {1, -2}, {-1, 2}, {-1, -2}}, lines(add(1), add(), remove(1), remove(1, 2)), nil, 0},
		// assumptions of a line
		{[][]int{{1, 2}, {-2, 3}}, lines(add(1, 3), add(1, 2), add(3)), nil, 3},
		{[][]int{{1, 2}, {-2, 3}}, lines(add(1, 3), add(1, 2)), []int{-1}, 3},
		{[][]int{{1, 2}, {-2, 3}}, lines(add(3, 1), remove(1, 2)), []int{2, 1}, 3},
	} {
		if got := rup.Check(x.cs, x.proof, x.goal); got != x.want {
			t.Errorf("Check(%v, %v, %v) is %d, not %d", x.cs, x.proof, x.goal, got, x.want)
		}
	}
}

// P4.2: just what the words of the chapter say; P4.4: and what was checked is true in all models.
func TestCheckOfManyProofs(t *testing.T) {
	count := map[string]int{}
	for seed := range 15000 {
		draw := draws(seed)
		vars := 2 + draw(5)
		cs := randomClauses(draw, vars, 4, draw(5*vars))
		proof := randomProof(draw, cs, vars, draw(25))
		goal := randomClause(draw, vars, 3)
		want := plainCheck(cs, proof, goal)
		if got := rup.Check(cs, proof, goal); got != want {
			t.Fatalf("Check(%v, %v, %v) is %d, not %d", cs, proof, goal, got, want)
		}
		switch want {
		case 0:
			count["correct"]++
			if !implied(vars, cs, goal) {
				t.Fatalf("Check(%v, %v, %v) is 0", cs, proof, goal)
			}
		case len(proof) + 1:
			count["goal"]++
		default:
			count["line"]++
		}
	}
	if count["correct"] < 1000 || count["goal"] < 1000 || count["line"] < 1000 {
		t.Errorf("too few of a kind: %v", count)
	}
}

// P4.2: of any lines, correct or not, for any goal.
func TestCheckOfAnyLines(t *testing.T) {
	for seed := range 15000 {
		draw := draws(-seed)
		vars := 1 + draw(3)
		cs := randomClauses(draw, vars, 3, draw(4*vars))
		var proof []api.Line
		for _, c := range randomClauses(draw, vars, 2, draw(8)) {
			proof = append(proof, api.Line{Delete: draw(2) == 0, Clause: c})
		}
		goal := randomClause(draw, vars, 2)
		if got, want := rup.Check(cs, proof, goal), plainCheck(cs, proof, goal); got != want {
			t.Fatalf("Check(%v, %v, %v) is %d, not %d", cs, proof, goal, got, want)
		}
	}
}

// proofOf returns a solver's proof that there is no model; none, if there is one.
func proofOf(cs [][]int) []api.Line {
	s, _ := sat.New(clause.Greatest(cs))
	for _, c := range cs {
		s.Add(c)
	}
	if s.Solve(-1) != api.Unsat {
		return nil
	}
	return s.Proof()
}

// P4.2: the proofs of a solver, and what is left of one when a line is missing or wrong.
func TestCheckOfSolversProofs(t *testing.T) {
	count := 0
	for seed := range 300 {
		draw := draws(seed)
		cs := triples(draw, 10, 55)
		proof := proofOf(cs)
		if proof == nil {
			continue
		}
		if got := rup.Check(cs, proof, nil); got != 0 {
			t.Fatalf("line %d of the proof for %v is not correct", got, cs)
		}
		for i := range proof {
			shorter := slices.Delete(slices.Clone(proof), i, i+1)
			if got, want := rup.Check(cs, shorter, nil), plainCheck(cs, shorter, nil); got != want {
				t.Fatalf("without line %d: %d, not %d", i, got, want)
			}
			wrong := slices.Clone(proof)
			wrong[i] = add(randomClause(draw, 10, 3)...)
			if got, want := rup.Check(cs, wrong, nil), plainCheck(cs, wrong, nil); got != want {
				t.Fatalf("with line %d as %v: %d, not %d", i, wrong[i], got, want)
			}
			count++
		}
	}
	if count < 500 {
		t.Errorf("too few lines: %d", count)
	}
}

// P4.2: long proofs, with many clauses that are deleted.
func TestCheckOfLongProofs(t *testing.T) {
	for _, cs := range [][][]int{pigeons(8, 7), triples(draws(1), 100, 480)} {
		proof := proofOf(cs)
		if len(proof) < 100 {
			t.Fatalf("a proof of %d lines", len(proof))
		}
		if got := rup.Check(cs, proof, nil); got != 0 {
			t.Errorf("line %d of %d is not correct", got, len(proof))
		}
		more := append(slices.Clone(proof), add(1), remove(1), remove(1))
		if got := rup.Check(cs, more, nil); got != len(more) {
			t.Errorf("line %d of %d is not correct", got, len(more))
		}
	}
	// With a hole for each pigeon there is a model, so no proof is correct.
	proof := proofOf(pigeons(8, 7))
	if got := rup.Check(pigeons(8, 7)[1:], proof, nil); got <= 0 || got > len(proof) {
		t.Errorf("without the first pigeon: %d", got)
	}
}

// P4.2: clauses that implied something are replaced one by one by what they implied.
func TestCheckOfManyLines(t *testing.T) {
	const far = 500
	cs := append(chain(far), []int{1})
	var proof []api.Line
	for v := 2; v <= far; v++ {
		proof = append(proof, add(v), remove(v, 1-v))
	}
	if got := rup.Check(cs, proof, []int{far}); got != 0 {
		t.Errorf("line %d is not correct", got)
	}
	for v := far; v > 1; v-- {
		proof = append(proof, remove(v))
		if got := rup.Check(cs, proof, []int{v}); got != len(proof)+1 {
			t.Fatalf("without %d it is %d", v, got)
		}
	}
	if got := rup.Check(cs, proof, []int{1}); got != 0 {
		t.Errorf("line %d is not correct", got)
	}
}
