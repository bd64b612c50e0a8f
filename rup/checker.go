package rup

import (
	"slices"
	"strconv"

	"weirgate/api"
	"weirgate/clause"
)

const (
	none       = -1 // instead of a place
	leastWatch = 2  // literals of a clause that is watched
)

// record is a clause, which is present as often as it has copies. If it is watched, it is so by its first two literals; if it implies one, that is the first.
type record struct {
	literals []int // each once
	copies   int
}

// checker has the clauses that are present, and what unit propagation finds out from them alone; that is kept from line to line, since most lines change little of it.
type checker struct {
	propagation
	records  []record
	places   map[string]int // of the records that are present, by their normal form
	short    []int          // the places of those that are too short to be watched
	watches  [][]int        // by literal: the places of those to look at when it becomes false
	conflict int            // the place of a clause that is false without any assumption
	stale    bool           // what was found out may no longer be so
}

func newChecker(vars int) *checker {
	return &checker{
		propagation: newPropagation(vars),
		places:      map[string]int{},
		watches:     make([][]int, 2*vars+1),
		conflict:    none,
	}
}

// accept reports whether a line is correct; if it is, it is carried out.
func (k *checker) accept(l api.Line) bool {
	switch {
	case !clause.Right(l.Clause):
		return false
	case l.Delete:
		return k.remove(l.Clause)
	case !k.follows(l.Clause):
		return false
	}
	k.add(l.Clause)
	return true
}

// follows assumes that the literals of c are false, and takes that back.
func (k *checker) follows(c []int) bool {
	norm, tautology := clause.Norm(c)
	if tautology {
		return true
	}
	k.refresh()
	if k.conflict != none {
		return true
	}
	defer k.undo(len(k.assigned))
	for _, n := range norm {
		if k.isTrue(n) {
			return true
		}
		if !k.isFalse(n) {
			k.assign(-n, none)
		}
	}
	return k.propagate() != none
}

func (k *checker) addAll(cs [][]int) {
	for _, c := range cs {
		k.add(c)
	}
}

func (k *checker) add(c []int) {
	norm, _ := clause.Norm(c)
	name := key(norm)
	if place, ok := k.places[name]; ok {
		k.records[place].copies++
		return
	}
	place := len(k.records)
	k.places[name] = place
	k.records = append(k.records, record{norm, 1})
	k.install(place)
}

// remove removes one copy; false, if there is none.
func (k *checker) remove(c []int) bool {
	norm, _ := clause.Norm(c)
	name := key(norm)
	place, ok := k.places[name]
	if !ok {
		return false
	}
	k.records[place].copies--
	if k.records[place].copies == 0 {
		delete(k.places, name)
		k.release(place)
	}
	return true
}

// key returns the same text for two normal forms only if they are the same.
func key(norm []int) string {
	var b []byte
	for _, n := range norm {
		b = append(strconv.AppendInt(b, int64(n), 10), ' ')
	}
	return string(b)
}

// install makes a clause be watched by literals that are not false, as far as it has any, and imply what is left of it.
func (k *checker) install(place int) {
	ls := k.records[place].literals
	front := 0
	for i, n := range ls {
		if !k.isFalse(n) {
			ls[front], ls[i] = n, ls[front]
			front++
		}
	}
	if len(ls) < leastWatch {
		k.short = append(k.short, place)
	} else {
		k.watch(ls[0], place)
		k.watch(ls[1], place)
	}
	k.apply(place)
}

// apply needs the literals that are not false ahead of the others. Behind a conflict nothing more is propagated: each clause follows, until what led to it is removed.
func (k *checker) apply(place int) {
	ls := k.records[place].literals
	switch {
	case k.conflict != none:
	case len(ls) == 0 || k.isFalse(ls[0]):
		k.conflict = place
	case !k.isTrue(ls[0]) && (len(ls) < leastWatch || k.isFalse(ls[1])):
		k.assign(ls[0], place)
		k.conflict = k.propagate()
	}
}

// release looks whether something was found out by means of a clause that has been removed. A literal may be present as a clause of its own, too; all else is found out anew only when it is needed, since lines that delete often come one behind the other.
func (k *checker) release(place int) {
	ls := k.records[place].literals
	if k.conflict == place {
		k.stale = true
		return
	}
	if len(ls) == 0 || k.reason(ls[0]) != place {
		return
	}
	if alone, ok := k.places[key(ls[:1])]; ok {
		k.justify(ls[0], alone)
	} else {
		k.stale = true
	}
}

// refresh finds out anew what the clauses that are present imply: without any values, each two literals of a clause may watch it.
func (k *checker) refresh() {
	if !k.stale {
		return
	}
	k.stale = false
	k.undo(0)
	k.conflict = none
	k.short = slices.DeleteFunc(k.short, func(place int) bool { return k.records[place].copies == 0 })
	for _, place := range k.short {
		k.apply(place)
	}
}

func (k *checker) watch(n, place int) {
	k.watches[k.index(n)] = append(k.watches[k.index(n)], place)
}

// propagate assigns what the clauses imply; it returns the place of a clause that is false, or none.
func (k *checker) propagate() int {
	for {
		n, ok := k.next()
		if !ok {
			return none
		}
		if place := k.wake(-n); place != none {
			return place
		}
	}
}

// wake looks at the clauses that a literal watches, which has become false.
func (k *checker) wake(n int) int {
	woken := k.watches[k.index(n)]
	kept := woken[:0]
	for i, place := range woken {
		r := k.records[place]
		if r.copies == 0 {
			continue
		}
		ls := r.literals
		if ls[0] == n {
			ls[0], ls[1] = ls[1], n
		}
		if k.isTrue(ls[0]) {
			kept = append(kept, place)
			continue
		}
		if k.rewatch(place) {
			continue
		}
		kept = append(kept, place)
		if k.isFalse(ls[0]) {
			k.watches[k.index(n)] = append(kept, woken[i+1:]...)
			return place
		}
		k.assign(ls[0], place)
	}
	k.watches[k.index(n)] = kept
	return none
}

// rewatch makes a literal that is not false the second one of a clause; false, if there is none.
func (k *checker) rewatch(place int) bool {
	ls := k.records[place].literals
	for i := leastWatch; i < len(ls); i++ {
		if !k.isFalse(ls[i]) {
			ls[1], ls[i] = ls[i], ls[1]
			k.watch(ls[1], place)
			return true
		}
	}
	return false
}
