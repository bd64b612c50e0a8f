package sat

// literal is twice its variable, plus 1 for a negative one, so that lists can be indexed by it.
type literal int32

func fromNumber(n int) literal {
	if n < 0 {
		return literal(-2*n + 1)
	}
	return literal(2 * n)
}

func fromNumbers(c []int) []literal {
	ls := make([]literal, len(c))
	for i, n := range c {
		ls[i] = fromNumber(n)
	}
	return ls
}

func toNumbers(ls []literal) []int {
	c := make([]int, len(ls))
	for i, l := range ls {
		c[i] = l.number()
	}
	return c
}

func (l literal) number() int {
	if l.isNegative() {
		return -l.variable()
	}
	return l.variable()
}

func (l literal) variable() int {
	return int(l >> 1)
}

func (l literal) isNegative() bool {
	return l&1 == 1
}

func (l literal) negation() literal {
	return l ^ 1
}

// value is that of a literal.
type value int8

const (
	isFalse      value = -1
	undetermined value = 0
	isTrue       value = 1
)

// trail has the literals that are true, in the order in which they became so: first what the clauses imply, then level by level a decision or an assumption (or none, if the assumption was true already) and what it implies.
type trail struct {
	vars     int
	assigned []literal
	starts   []int     // of the levels from 1 on
	head     int       // of the literals whose clauses have not been looked at
	values   []value   // by literal
	levels   []int     // by variable
	reasons  []*record // by variable: what implied it, if anything did
	phases   []bool    // by variable: its last value
}

func newTrail(n int) trail {
	return trail{
		vars:    n,
		values:  make([]value, 2*(n+1)),
		levels:  make([]int, n+1),
		reasons: make([]*record, n+1),
		phases:  make([]bool, n+1),
	}
}

func (t *trail) level() int {
	return len(t.starts)
}

func (t *trail) open() {
	t.starts = append(t.starts, len(t.assigned))
}

func (t *trail) levelOf(l literal) int {
	return t.levels[l.variable()]
}

func (t *trail) assign(l literal, reason *record) {
	v := l.variable()
	t.values[l], t.values[l.negation()] = isTrue, isFalse
	t.levels[v] = t.level()
	t.reasons[v] = reason
	t.assigned = append(t.assigned, l)
}

// unassign removes what is above a level, and returns it.
func (t *trail) unassign(level int) []literal {
	if t.level() <= level {
		return nil
	}
	start := t.starts[level]
	removed := t.assigned[start:]
	for _, l := range removed {
		v := l.variable()
		t.values[l], t.values[l.negation()] = undetermined, undetermined
		t.reasons[v] = nil
		t.phases[v] = !l.isNegative()
	}
	t.assigned, t.starts, t.head = t.assigned[:start], t.starts[:level], start
	return removed
}

// current returns the values of all variables.
func (t *trail) current() []bool {
	model := make([]bool, t.vars)
	for i := range model {
		model[i] = t.values[fromNumber(i+1)] == isTrue
	}
	return model
}
