package sat

import (
	"slices"

	"weirgate/api"
	"weirgate/clause"
)

const (
	firstBump = 1 << 10
	mostBump  = 1 << 50 // times bumpShare is far below what an activity can be
	bumpShare = 32      // by this part of it the bump grows, so that old conflicts count for less
)

// mark is what the analysis of a conflict has found out about a variable.
type mark uint8

const (
	unmarked mark = iota
	inClause      // in the learned clause, or replaced in it
	implied       // by the learned clause
	needed        // not implied by it
)

func (s *Solver) markOf(l literal) mark {
	return s.marks[l.variable()]
}

// mark overwrites a mark, too.
func (s *Solver) mark(l literal, m mark) {
	if s.markOf(l) == unmarked {
		s.marked = append(s.marked, l.variable())
	}
	s.marks[l.variable()] = m
}

func (s *Solver) unmark() {
	for _, v := range s.marked {
		s.marks[v] = unmarked
	}
	s.marked = s.marked[:0]
}

// learn adds the clause that follows from a conflict, and goes back to the level where it implies something.
func (s *Solver) learn(conflict *record) {
	ls := s.shorten(s.analyze(conflict))
	s.unmark()
	s.write(false, toNumbers(ls))
	if len(ls) < leastWatch {
		s.backtrack(0)
		s.assign(ls[0], nil)
	} else {
		c := &record{literals: ls, glue: s.countLevels(ls)}
		s.backtrack(s.arrange(ls))
		s.learned = append(s.learned, c)
		s.attach(c)
		s.assign(ls[0], c)
	}
	s.age()
}

// analyze replaces, in the clause that is false, literals of the present level by the reasons for which they are, until only one is left: the first one of the result.
func (s *Solver) analyze(conflict *record) []literal {
	ls := make([]literal, 1)
	left := 0
	for i, c := len(s.assigned)-1, conflict; ; i-- {
		s.use(c)
		for _, l := range c.literals {
			if s.markOf(l) != unmarked || s.levelOf(l) == 0 {
				continue
			}
			s.mark(l, inClause)
			s.order.Bump(l.variable(), s.bump)
			if s.levelOf(l) == s.level() {
				left++
			} else {
				ls = append(ls, l)
			}
		}
		for s.markOf(s.assigned[i]) == unmarked {
			i--
		}
		left--
		if left == 0 {
			ls[0] = s.assigned[i].negation()
			return ls
		}
		c = s.reasons[s.assigned[i].variable()]
	}
}

// use tells a learned clause from those that are of no use.
func (s *Solver) use(c *record) {
	if c.glue > keptGlue {
		c.used = true
		c.glue = min(c.glue, s.countLevels(c.literals))
	}
}

// shorten removes literals that are false because others in the clause are.
func (s *Solver) shorten(ls []literal) []literal {
	s.countLevels(ls)
	kept := ls[:1]
	for _, l := range ls[1:] {
		if !s.isImplied(l) {
			kept = append(kept, l)
		}
	}
	return kept
}

// isImplied relies on the levels of the learned clause having been counted last: a level of which it has no literal begins with a decision that it does not imply.
func (s *Solver) isImplied(l literal) bool {
	reason := s.reasons[l.variable()]
	if reason == nil {
		return false
	}
	for _, m := range reason.literals {
		if m.variable() == l.variable() || s.levelOf(m) == 0 {
			continue
		}
		switch s.markOf(m) {
		case inClause, implied:
			continue
		case needed:
			return false
		}
		if s.stamps[s.levelOf(m)] != s.stampCount || !s.isImplied(m) {
			s.mark(m, needed)
			return false
		}
		s.mark(m, implied)
	}
	return true
}

// countLevels returns how many levels the literals have, and stamps them.
func (s *Solver) countLevels(ls []literal) int {
	if more := s.level() + 1 - len(s.stamps); more > 0 {
		s.stamps = append(s.stamps, make([]int, more)...)
	}
	s.stampCount++
	count := 0
	for _, l := range ls {
		if s.stamps[s.levelOf(l)] != s.stampCount {
			s.stamps[s.levelOf(l)] = s.stampCount
			count++
		}
	}
	return count
}

// arrange makes a literal of the greatest level behind the first one's the second one, and returns that level: both are the last ones to lose their values.
func (s *Solver) arrange(ls []literal) int {
	second := 1
	for i := range ls {
		if i > second && s.levelOf(ls[i]) > s.levelOf(ls[second]) {
			second = i
		}
	}
	ls[1], ls[second] = ls[second], ls[1]
	return s.levelOf(ls[1])
}

// age makes the variables of later conflicts gain more than those of earlier ones did.
func (s *Solver) age() {
	s.bump += s.bump / bumpShare
	if s.bump > mostBump {
		s.bump /= 2
		s.order.Halve()
	}
}

// write appends a line to the proof.
func (s *Solver) write(deletes bool, c []int) {
	norm, _ := clause.Norm(c)
	s.proof = append(s.proof, api.Line{Delete: deletes, Clause: norm})
}

// conclude makes the last line of the proof say that the literals of core are not all true, unless that is a tautology. A line of a learned clause does not do, since it is deleted with that.
func (s *Solver) conclude(core []int) {
	goal := make([]int, len(core))
	for i, n := range core {
		goal[i] = -n
	}
	norm, tautology := clause.Norm(goal)
	if tautology || s.concludes(norm) {
		return
	}
	s.write(false, norm)
	s.concluded = len(s.proof)
}

// concludes reports whether the last line is a conclusion already, and the same.
func (s *Solver) concludes(norm []int) bool {
	end := len(s.proof)
	return end > 0 && end == s.concluded && slices.Equal(s.proof[end-1].Clause, norm)
}
