package rup

import "slices"

// propagation has the literals that are true, in the order in which they became so. Its lists by literal have literal n at n plus the number of variables.
type propagation struct {
	vars     int
	assigned []int
	head     int    // of those whose clauses have not been looked at
	holds    []bool // by literal
	reasons  []int  // by literal that is true: the place of the clause that implied it, or none
}

func newPropagation(vars int) propagation {
	return propagation{
		vars:    vars,
		holds:   make([]bool, 2*vars+1),
		reasons: slices.Repeat([]int{none}, 2*vars+1),
	}
}

func (p *propagation) index(n int) int {
	return n + p.vars
}

func (p *propagation) isTrue(n int) bool {
	return p.holds[p.index(n)]
}

func (p *propagation) isFalse(n int) bool {
	return p.holds[p.index(-n)]
}

func (p *propagation) reason(n int) int {
	return p.reasons[p.index(n)]
}

func (p *propagation) assign(n, reason int) {
	p.holds[p.index(n)] = true
	p.justify(n, reason)
	p.assigned = append(p.assigned, n)
}

func (p *propagation) justify(n, reason int) {
	p.reasons[p.index(n)] = reason
}

// next returns the next literal whose clauses have not been looked at.
func (p *propagation) next() (int, bool) {
	if p.head == len(p.assigned) {
		return 0, false
	}
	p.head++
	return p.assigned[p.head-1], true
}

// undo keeps the first literals only, so many of them.
func (p *propagation) undo(count int) {
	for _, n := range p.assigned[count:] {
		p.holds[p.index(n)] = false
		p.reasons[p.index(n)] = none
	}
	p.assigned = p.assigned[:count]
	p.head = count
}
