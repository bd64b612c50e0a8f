package rup_test

import (
	"slices"

	"weirgate/api"
	"weirgate/clause"
	"weirgate/rup"
)

func add(c ...int) api.Line { return api.Line{Clause: c} }

func remove(c ...int) api.Line { return api.Line{Delete: true, Clause: c} }

func lines(ls ...api.Line) []api.Line { return ls }

// draws returns numbers that look random, the same ones for the same seed.
func draws(seed int) func(below int) int {
	state := uint64(seed)*2862933555777941757 + 3037000493
	return func(below int) int {
		state = state*6364136223846793005 + 1442695040888963407
		return int(state>>33) % below
	}
}

// randomClause returns one of at most so many literals, perhaps with some that occur several times, or beside their negation.
func randomClause(draw func(int) int, vars, most int) []int {
	c := make([]int, draw(most+1))
	for i := range c {
		c[i] = 1 + draw(vars)
		if draw(2) == 0 {
			c[i] = -c[i]
		}
	}
	return c
}

func randomClauses(draw func(int) int, vars, most, count int) [][]int {
	var cs [][]int
	for range count {
		cs = append(cs, randomClause(draw, vars, most))
	}
	return cs
}

// triples returns clauses of three literals each.
func triples(draw func(int) int, vars, count int) [][]int {
	var cs [][]int
	for range count {
		c := make([]int, 3)
		for i := range c {
			c[i] = (1 + draw(vars)) * (1 - 2*draw(2))
		}
		cs = append(cs, c)
	}
	return cs
}

// shuffled returns the same clause in another order, with a literal that occurs once more.
func shuffled(draw func(int) int, c []int) []int {
	d := slices.Clone(c)
	if len(d) > 0 {
		d = append(d, d[draw(len(d))])
	}
	for i := range d {
		j := i + draw(len(d)-i)
		d[i], d[j] = d[j], d[i]
	}
	return d
}

// plainFollows does, step by step, what the chapter's words say.
func plainFollows(cs [][]int, c []int) bool {
	holds := map[int]int{}
	for _, n := range c {
		holds[-n]++
	}
	for {
		for n := range holds {
			if holds[n] > 0 && holds[-n] > 0 {
				return true
			}
		}
		added := false
		for _, d := range cs {
			left := map[int]int{}
			for _, n := range d {
				if holds[-n] == 0 {
					left[n]++
				}
			}
			if len(left) == 0 {
				return true
			}
			for n := range left {
				if len(left) == 1 && holds[n] == 0 {
					holds[n]++
					added = true
				}
			}
		}
		if !added {
			return false
		}
	}
}

func sameForm(c, d []int) bool {
	cn, _ := clause.Norm(c)
	dn, _ := clause.Norm(d)
	return slices.Equal(cn, dn)
}

// plainCheck does what the chapter's words say, with a list of the clauses that are present.
func plainCheck(cs [][]int, proof []api.Line, goal []int) int {
	present := slices.Clone(cs)
	for i, l := range proof {
		at := slices.IndexFunc(present, func(c []int) bool { return sameForm(c, l.Clause) })
		switch {
		case !clause.Right(l.Clause):
			return i + 1
		case l.Delete && at < 0:
			return i + 1
		case l.Delete:
			present = slices.Delete(present, at, at+1)
		case !plainFollows(present, l.Clause):
			return i + 1
		default:
			present = append(present, l.Clause)
		}
	}
	if !plainFollows(present, goal) {
		return len(proof) + 1
	}
	return 0
}

// models returns all models of so many variables.
func models(vars int) [][]bool {
	var all [][]bool
	for i := range 1 << vars {
		model := make([]bool, vars)
		for v := range model {
			model[v] = i>>v&1 == 1
		}
		all = append(all, model)
	}
	return all
}

// implied reports whether each model of cs has a literal of c that is true.
func implied(vars int, cs [][]int, c []int) bool {
	for _, model := range models(vars) {
		if clause.All(cs, model) && !clause.Holds(c, model) {
			return false
		}
	}
	return true
}

// randomProof returns lines most of which are correct, behind each other: clauses that follow, and some of those that are present, deleted.
func randomProof(draw func(int) int, cs [][]int, vars, count int) []api.Line {
	var proof []api.Line
	present := slices.Clone(cs)
	for len(proof) < count {
		c := randomClause(draw, vars, 3)
		switch {
		case draw(40) == 0:
			proof = append(proof, api.Line{Delete: draw(2) == 0, Clause: c})
		case draw(2) == 0 && len(present) > 0:
			at := draw(len(present))
			proof = append(proof, remove(shuffled(draw, present[at])...))
			present = slices.Delete(present, at, at+1)
		case rup.Follows(present, c):
			proof = append(proof, add(c...))
			present = append(present, c)
		case len(present) == 0:
			proof = append(proof, add(1, -1))
			present = append(present, []int{-1, 1})
		}
	}
	return proof
}

// chain returns clauses by which 1 implies 2, 2 implies 3, and so on, the last one first.
func chain(length int) [][]int {
	var cs [][]int
	for v := length - 1; v > 0; v-- {
		cs = append(cs, []int{-v, v + 1})
	}
	return cs
}

// pigeons returns clauses that say that so many pigeons have a hole each, and each hole at most one of them.
func pigeons(count, holes int) [][]int {
	var cs [][]int
	in := func(pigeon, hole int) int { return pigeon*holes + hole + 1 }
	for p := range count {
		var c []int
		for h := range holes {
			c = append(c, in(p, h))
			for q := range p {
				cs = append(cs, []int{-in(p, h), -in(q, h)})
			}
		}
		cs = append(cs, c)
	}
	return cs
}
