package sat

import (
	"maps"
	"math/bits"
	"slices"

	"weirgate/api"
	"weirgate/clause"
)

const restartUnit = 64 // conflicts

// search returns its answer and, if the assumptions are at fault, some of them; it gives up as soon as a conflict is not within what is allowed.
func (s *Solver) search(within func() bool, assume []int) (int, []int) {
	defer s.backtrack(0)
	assumed := fromNumbers(assume)
	restarts, last := 1, s.conflicts
	for !s.broken {
		if conflict := s.propagate(); conflict != nil {
			if s.level() == 0 {
				s.broken = true
				break
			}
			if !within() {
				return api.Unknown, nil
			}
			s.conflicts++
			s.learn(conflict)
			continue
		}
		if s.conflicts-last >= restartUnit*luby(restarts) {
			s.backtrack(len(assumed))
			restarts, last = restarts+1, s.conflicts
		}
		s.reduce()
		l, ok := s.next(assumed)
		if !ok {
			s.witness = s.current()
			return api.Sat, nil
		}
		if s.values[l] == isFalse {
			core := s.blame(l)
			s.conclude(core)
			return api.Unsat, core
		}
		s.open()
		s.assign(l, nil)
	}
	s.conclude(nil)
	return api.Unsat, nil
}

// next returns the next assumption that is not true, or else the next decision; false, if all variables have values.
func (s *Solver) next(assumed []literal) (literal, bool) {
	for s.level() < len(assumed) {
		l := assumed[s.level()]
		if s.values[l] != isTrue {
			return l, true
		}
		// Assumption i belongs to level i+1, even if that has nothing else.
		s.open()
	}
	for {
		v, ok := s.order.Next()
		if !ok {
			return 0, false
		}
		l := fromNumber(v)
		if s.values[l] != undetermined {
			continue
		}
		if s.phases[v] {
			return l, true
		}
		return l.negation(), true
	}
}

// backtrack removes what is above a level; then the order has all variables without a value again.
func (s *Solver) backtrack(level int) {
	for _, l := range s.unassign(level) {
		s.order.Put(l.variable())
	}
}

// blame returns the assumptions that make another one false, and that one; so far nothing has been decided.
func (s *Solver) blame(failed literal) []int {
	core := map[int]struct{}{failed.number(): {}}
	s.mark(failed, inClause)
	for i := len(s.assigned) - 1; i >= 0; i-- {
		l := s.assigned[i]
		if s.levelOf(l) == 0 {
			break
		}
		if s.markOf(l) == unmarked {
			continue
		}
		reason := s.reasons[l.variable()]
		if reason == nil {
			core[l.number()] = struct{}{}
			continue
		}
		for _, m := range reason.literals {
			s.mark(m, inClause)
		}
	}
	s.unmark()
	norm, _ := clause.Norm(slices.Collect(maps.Keys(core)))
	return norm
}

// luby returns the number i, from 1 on, of the sequence 1 1 2 1 1 2 4 1 1 2 1 1 2 4 8 ..: mostly short searches, and some as long as needed.
func luby(i int) int {
	for {
		half := 1 << (bits.Len(uint(i)) - 1)
		if i == 2*half-1 {
			return half
		}
		i -= half - 1
	}
}
