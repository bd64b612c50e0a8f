package sat

import (
	"cmp"
	"slices"
)

const (
	firstRoom  = 2000
	moreRoom   = 500
	keptGlue   = 2 // of clauses that stay
	leastWatch = 2 // literals of a clause that is watched
)

// record is a clause that is watched: it is looked at only when one of its first two literals becomes false. If it implies a literal, that is the first one.
type record struct {
	literals []literal
	glue     int  // how many levels its literals had at best: with few of them it is soon of use again
	used     bool // in a conflict, since clauses were deleted last
	deleted  bool
}

// watch is that of a clause; if the other literal is true, the clause need not be looked at.
type watch struct {
	clause *record
	other  literal
}

// install makes a clause imply, or be watched, whatever holds without a decision.
func (s *Solver) install(norm []int) {
	ls := fromNumbers(norm)
	if slices.ContainsFunc(ls, func(l literal) bool { return s.values[l] == isTrue }) {
		return
	}
	ls = slices.DeleteFunc(ls, func(l literal) bool { return s.values[l] == isFalse })
	switch {
	case len(ls) == 0:
		s.broken = true
	case len(ls) < leastWatch:
		s.assign(ls[0], nil)
	default:
		s.attach(&record{literals: ls})
	}
}

func (s *Solver) attach(c *record) {
	first, second := c.literals[0], c.literals[1]
	s.watches[first] = append(s.watches[first], watch{c, second})
	s.watches[second] = append(s.watches[second], watch{c, first})
}

// propagate assigns what the clauses imply; it returns a clause that is false, if there is one.
func (s *Solver) propagate() *record {
	for s.head < len(s.assigned) {
		l := s.assigned[s.head]
		s.head++
		if conflict := s.wake(l.negation()); conflict != nil {
			return conflict
		}
	}
	return nil
}

// wake looks at the clauses that watch a literal, which has become false.
func (s *Solver) wake(l literal) *record {
	woken := s.watches[l]
	kept := woken[:0]
	for i, w := range woken {
		if s.values[w.other] == isTrue {
			kept = append(kept, w)
			continue
		}
		c := w.clause
		if c.literals[0] == l {
			c.literals[0], c.literals[1] = c.literals[1], l
		}
		first := c.literals[0]
		if s.values[first] != isTrue && s.rewatch(c) {
			continue
		}
		kept = append(kept, watch{c, first})
		switch s.values[first] {
		case isFalse:
			s.watches[l] = append(kept, woken[i+1:]...)
			return c
		case undetermined:
			s.assign(first, c)
		}
	}
	s.watches[l] = kept
	return nil
}

// rewatch makes a literal that is not false the second one of c; false, if there is none.
func (s *Solver) rewatch(c *record) bool {
	ls := c.literals
	for i := leastWatch; i < len(ls); i++ {
		if s.values[ls[i]] != isFalse {
			ls[1], ls[i] = ls[i], ls[1]
			s.watches[ls[1]] = append(s.watches[ls[1]], watch{c, ls[0]})
			return true
		}
	}
	return false
}

// reduce deletes half of the learned clauses that seem to be of no use, when there are too many.
func (s *Solver) reduce() {
	if len(s.learned) < s.room {
		return
	}
	s.room += moreRoom
	var useless []*record
	for _, c := range s.learned {
		if c.glue > keptGlue && !c.used && !s.isReason(c) {
			useless = append(useless, c)
		}
		c.used = false
	}
	slices.SortStableFunc(useless, func(a, b *record) int {
		return cmp.Or(cmp.Compare(b.glue, a.glue), cmp.Compare(len(b.literals), len(a.literals)))
	})
	for _, c := range useless[:(len(useless)+1)/2] {
		c.deleted = true
		s.write(true, toNumbers(c.literals))
	}
	s.forgetDeleted()
}

// isReason finds those that implied something: without them what they implied would not follow.
func (s *Solver) isReason(c *record) bool {
	return s.reasons[c.literals[0].variable()] == c
}

func (s *Solver) forgetDeleted() {
	s.learned = slices.DeleteFunc(s.learned, func(c *record) bool { return c.deleted })
	for l := range s.watches {
		s.watches[l] = slices.DeleteFunc(s.watches[l], func(w watch) bool { return w.clause.deleted })
	}
}
