// Package clause handles literals, clauses, and their text: layer 1, see ../shared/doc/01-clause.md.
package clause

import (
	"cmp"
	"slices"

	"weirgate/api"
)

// Right reports whether c consists only of literals.
func Right(c []int) bool {
	return !slices.ContainsFunc(c, func(n int) bool { return !isLiteral(n) })
}

// Norm returns the normal form of c, and whether c is a tautology; none and false if c is not valid.
func Norm(c []int) ([]int, bool) {
	if !Right(c) {
		return nil, false
	}
	sorted := slices.Clone(c)
	slices.SortFunc(sorted, func(a, b int) int {
		return cmp.Or(cmp.Compare(variable(a), variable(b)), cmp.Compare(b, a))
	})
	norm := slices.Compact(sorted)
	return norm, hasOpposites(norm)
}

// Holds reports whether a literal of c is true in the model.
func Holds(c []int, model []bool) bool {
	return slices.ContainsFunc(c, func(n int) bool {
		return isLiteral(n) && value(variable(n), model) == (n > 0)
	})
}

// All reports whether all clauses hold in the model.
func All(cs [][]int, model []bool) bool {
	return !slices.ContainsFunc(cs, func(c []int) bool { return !Holds(c, model) })
}

// Greatest returns the greatest variable of the literals in cs; 0, if there are none.
func Greatest(cs [][]int) int {
	most := 0
	for _, c := range cs {
		for _, n := range c {
			if isLiteral(n) {
				most = max(most, variable(n))
			}
		}
	}
	return most
}

// isLiteral compares with both bounds: the negation of the least int would wrap round.
func isLiteral(n int) bool {
	return n != 0 && -api.MaxVar <= n && n <= api.MaxVar
}

func variable(literal int) int {
	return max(literal, -literal)
}

func value(v int, model []bool) bool {
	return v <= len(model) && model[v-1]
}

// hasOpposites needs a normal form: only there do a literal and its negation stand side by side.
func hasOpposites(norm []int) bool {
	for i := 1; i < len(norm); i++ {
		if norm[i] == -norm[i-1] {
			return true
		}
	}
	return false
}
