package heap

import (
	"math"
	"slices"
	"testing"

	"weirgate/api"
)

func newHeap(t *testing.T, n int) *Heap {
	t.Helper()
	h, e := New(n)
	if h == nil || e != api.OK {
		t.Fatalf("New(%d) is %v, %v", n, h, e)
	}
	return h
}

// drain takes all variables out, in their order.
func drain(h *Heap) []int {
	var all []int
	for v, ok := h.Next(); ok; v, ok = h.Next() {
		all = append(all, v)
	}
	return all
}

func upTo(n int) []int {
	all := make([]int, n)
	for i := range all {
		all[i] = i + 1
	}
	return all
}

// notVariables returns numbers that are not from 1 to n; some are, if they are cut to 32 bits.
func notVariables(n int) []int {
	return []int{0, -1, n + 1, -n, n + 2, 1 << 32, 1<<32 + 1, -1<<32 + 1, math.MaxInt, math.MinInt, math.MinInt + 1}
}

// expect holds all that a heap of n variables tells against what is wanted: the contained ones, and the activities by variable.
func expect(t *testing.T, h *Heap, n int, in []int, activity map[int]int64) {
	t.Helper()
	if h.Len() != len(in) {
		t.Fatalf("Len is %d, not %d", h.Len(), len(in))
	}
	for v := -1; v <= n+1; v++ {
		if h.Has(v) != slices.Contains(in, v) {
			t.Fatalf("Has(%d) is %v", v, h.Has(v))
		}
		if h.Activity(v) != activity[v] {
			t.Fatalf("Activity(%d) is %d, not %d", v, h.Activity(v), activity[v])
		}
	}
}

// P2.1.
func TestNew(t *testing.T) {
	for _, n := range []int{-1, -2, api.MaxVar + 1, api.MaxVar + 2, 1 << 32, math.MaxInt, math.MinInt} {
		if h, e := New(n); h != nil || e != api.ErrArg {
			t.Errorf("New(%d) is %v, %v", n, h, e)
		}
	}
	for _, n := range []int{0, 1, 2, 3, 10, 1000} {
		h := newHeap(t, n)
		expect(t, h, n, upTo(n), nil)
		if got := drain(h); !slices.Equal(got, upTo(n)) {
			t.Errorf("New(%d) has %v", n, got)
		}
	}
}

// P2.1.
func TestNewOfMost(t *testing.T) {
	h := newHeap(t, api.MaxVar)
	if h.Len() != api.MaxVar || !h.Has(api.MaxVar) || h.Has(api.MaxVar+1) {
		t.Errorf("Len is %d, Has is %v, %v", h.Len(), h.Has(api.MaxVar), h.Has(api.MaxVar+1))
	}
	if !h.Bump(api.MaxVar, 1) || h.Bump(api.MaxVar+1, 1) || h.Put(api.MaxVar) {
		t.Error("Bump or Put of the greatest variable")
	}
	if got := drain(h); !slices.Equal(got, append([]int{api.MaxVar}, upTo(api.MaxVar-1)...)) {
		t.Error("wrong order")
	}
	if !h.Put(api.MaxVar) || h.Len() != 1 {
		t.Error("Put after Next")
	}
}

// P2.1: the example, and other orders.
func TestNext(t *testing.T) {
	for _, x := range []struct {
		activity []int64
		want     []int
	}{
		{nil, nil},
		{[]int64{7}, []int{1}},
		{[]int64{0, 5, 0}, []int{2, 1, 3}},
		{[]int64{1, 2, 3}, []int{3, 2, 1}},
		{[]int64{3, 2, 1}, []int{1, 2, 3}},
		{[]int64{4, 4, 4}, []int{1, 2, 3}},
		{[]int64{2, 7, 0, 7, 1}, []int{2, 4, 1, 5, 3}},
		{[]int64{0, 1, 0, 1, 0, 1, 0, 1}, []int{2, 4, 6, 8, 1, 3, 5, 7}},
		{[]int64{1 << 60, 1<<60 - 1, 1 << 60}, []int{1, 3, 2}},
		{[]int64{1, 1 << 32, 2}, []int{2, 3, 1}},
	} {
		h := newHeap(t, len(x.activity))
		for i, by := range x.activity {
			h.Bump(i+1, by)
		}
		if got := drain(h); !slices.Equal(got, x.want) {
			t.Errorf("of %v: %v", x.activity, got)
		}
	}
}

// P2.1: 0 and false, as often as it is asked.
func TestNextOfNone(t *testing.T) {
	for _, n := range []int{0, 1, 3} {
		h := newHeap(t, n)
		drain(h)
		for range 3 {
			if v, ok := h.Next(); v != 0 || ok {
				t.Errorf("Next is %d, %v", v, ok)
			}
			expect(t, h, n, nil, nil)
		}
	}
}

// P2.1.
func TestPut(t *testing.T) {
	h := newHeap(t, 4)
	for _, v := range upTo(4) {
		if h.Put(v) {
			t.Errorf("Put(%d) of a contained one", v)
		}
	}
	expect(t, h, 4, upTo(4), nil)
	h.Bump(3, 2)
	h.Bump(4, 1)
	drain(h)
	var in []int
	for _, v := range []int{2, 4, 1, 3} {
		if !h.Put(v) || h.Put(v) {
			t.Errorf("Put(%d)", v)
		}
		in = append(in, v)
		expect(t, h, 4, in, map[int]int64{3: 2, 4: 1})
	}
	if got := drain(h); !slices.Equal(got, []int{3, 4, 1, 2}) {
		t.Errorf("after Put: %v", got)
	}
}

// P2.1: one comes back with the activity that it had.
func TestPutAfterNext(t *testing.T) {
	h := newHeap(t, 3)
	h.Bump(2, 5)
	for range 3 {
		if v, ok := h.Next(); v != 2 || !ok || h.Has(2) || h.Activity(2) != 5 {
			t.Fatalf("Next is %d, %v", v, ok)
		}
		if !h.Put(2) {
			t.Fatal("Put(2) is false")
		}
	}
	if got := drain(h); !slices.Equal(got, []int{2, 1, 3}) {
		t.Errorf("after Put: %v", got)
	}
}

// P2.1 and P2.2: no effect for numbers that are not variables, whether the heap is full or empty.
func TestNotVariables(t *testing.T) {
	for _, n := range []int{0, 1, 5} {
		for _, in := range [][]int{upTo(n), nil} {
			h := newHeap(t, n)
			if in == nil {
				drain(h)
			}
			for _, v := range notVariables(n) {
				if h.Put(v) || h.Bump(v, 1) || h.Bump(v, 0) || h.Has(v) || h.Activity(v) != 0 {
					t.Errorf("%d is a variable of %d", v, n)
				}
			}
			expect(t, h, n, in, nil)
			if got := drain(h); !slices.Equal(got, in) {
				t.Errorf("%v, not %v", got, in)
			}
		}
	}
}

// P2.2.
func TestBump(t *testing.T) {
	h := newHeap(t, 3)
	if !h.Bump(1, 4) || !h.Bump(1, 0) || !h.Bump(3, 1) || !h.Bump(1, 3) {
		t.Error("Bump is false")
	}
	expect(t, h, 3, upTo(3), map[int]int64{1: 7, 3: 1})
	for _, by := range []int64{-1, -7, math.MinInt64, math.MinInt64 + 1} {
		if h.Bump(1, by) || h.Bump(2, by) {
			t.Errorf("Bump by %d", by)
		}
	}
	expect(t, h, 3, upTo(3), map[int]int64{1: 7, 3: 1})
	if got := drain(h); !slices.Equal(got, []int{1, 3, 2}) {
		t.Errorf("after Bump: %v", got)
	}
}

// P2.2: one that is not contained is not inserted by it.
func TestBumpOutside(t *testing.T) {
	h := newHeap(t, 3)
	h.Next()
	h.Next()
	if !h.Bump(2, 6) || !h.Bump(2, 1) || h.Bump(1, -1) {
		t.Error("Bump of one that is not contained")
	}
	expect(t, h, 3, []int{3}, map[int]int64{2: 7})
	h.Put(1)
	h.Put(2)
	if got := drain(h); !slices.Equal(got, []int{2, 1, 3}) {
		t.Errorf("after Put: %v", got)
	}
}

// P2.2: to at most 2^60.
func TestBumpToMost(t *testing.T) {
	const most = int64(1) << 60
	for _, x := range []struct {
		by   []int64
		want int64
	}{
		{[]int64{most - 1}, most - 1},
		{[]int64{most}, most},
		{[]int64{most + 1}, most},
		{[]int64{math.MaxInt64}, most},
		{[]int64{most - 1, 1}, most},
		{[]int64{most - 1, 2}, most},
		{[]int64{most - 1, math.MaxInt64}, most},
		{[]int64{most, 0}, most},
		{[]int64{most, 1, math.MaxInt64, most}, most},
		{[]int64{1, most - 2}, most - 1},
		{[]int64{most / 2, most / 2}, most},
	} {
		h := newHeap(t, 2)
		h.Next()
		for _, by := range x.by {
			if !h.Bump(1, by) || !h.Bump(2, by) {
				t.Errorf("Bump by %d is false", by)
			}
		}
		expect(t, h, 2, []int{2}, map[int]int64{1: x.want, 2: x.want})
	}
}

// P2.2: rounded down, contained or not.
func TestHalve(t *testing.T) {
	h := newHeap(t, 5)
	for i, by := range []int64{0, 1, 2, 7, 1 << 60} {
		h.Bump(i+1, by)
	}
	h.Next()
	h.Next()
	h.Halve()
	expect(t, h, 5, []int{1, 2, 3}, map[int]int64{3: 1, 4: 3, 5: 1 << 59})
	h.Halve()
	expect(t, h, 5, []int{1, 2, 3}, map[int]int64{4: 1, 5: 1 << 58})
	for range 70 {
		h.Halve()
	}
	expect(t, h, 5, []int{1, 2, 3}, nil)
	empty := newHeap(t, 0)
	empty.Halve()
	expect(t, empty, 0, nil, nil)
}

// P2.1 and P2.2: activities that halving makes equal leave the least variable first.
func TestHalveReorders(t *testing.T) {
	h := newHeap(t, 2)
	h.Bump(1, 2)
	h.Bump(2, 3)
	h.Halve()
	if got := drain(h); !slices.Equal(got, []int{1, 2}) {
		t.Errorf("after Halve: %v", got)
	}
	const n = 200
	h = newHeap(t, n)
	for v := 1; v <= n; v++ {
		h.Bump(v, int64(v))
	}
	for range 8 {
		h.Halve()
	}
	if got := drain(h); !slices.Equal(got, upTo(n)) {
		t.Errorf("after Halve: %v", got)
	}
}

// P2.1: two heaps have nothing in common.
func TestHeapsAreSeparate(t *testing.T) {
	a, b := newHeap(t, 3), newHeap(t, 3)
	a.Bump(3, 9)
	a.Next()
	a.Halve()
	expect(t, a, 3, []int{1, 2}, map[int]int64{3: 4})
	expect(t, b, 3, upTo(3), nil)
}

// What New returns beside an error, and what it did not make, has no variables.
func TestNoVariables(t *testing.T) {
	none, _ := New(-1)
	for _, h := range []*Heap{none, {}} {
		h.Halve()
		if v, ok := h.Next(); v != 0 || ok || h.Put(1) || h.Bump(1, 1) {
			t.Error("a variable of none")
		}
		expect(t, h, 3, nil, nil)
	}
}

// list is the plainest heap: it looks through all variables.
type list struct {
	in       []bool
	activity []int64
}

func (l *list) contained() []int {
	var all []int
	for v, in := range l.in {
		if in {
			all = append(all, v)
		}
	}
	return all
}

func (l *list) next() (int, bool) {
	best := 0
	for _, v := range l.contained() {
		if best == 0 || l.activity[v] > l.activity[best] {
			best = v
		}
	}
	l.in[best] = false
	return best, best != 0
}

// P2.1 and P2.2: after any calls a heap answers what the plainest one does; small activities make many of them equal.
func TestAgainstList(t *testing.T) {
	for _, n := range []int{1, 2, 3, 7, 8, 40} {
		h := newHeap(t, n)
		l := &list{make([]bool, n+1), make([]int64, n+1)}
		for _, v := range upTo(n) {
			l.in[v] = true
		}
		seed := uint32(n)
		draw := func(below int) int {
			seed = seed*1664525 + 1013904223
			return int(seed>>16) % below
		}
		for step := range 4000 {
			v, by := 1+draw(n), int64(draw(6))
			switch draw(8) {
			case 0, 1, 2:
				got, gotOK := h.Next()
				if want, ok := l.next(); got != want || gotOK != ok {
					t.Fatalf("%d, step %d: Next is %d, %v, not %d", n, step, got, gotOK, want)
				}
			case 3, 4, 5:
				if h.Put(v) == l.in[v] {
					t.Fatalf("%d, step %d: Put(%d)", n, step, v)
				}
				l.in[v] = true
			case 6:
				if !h.Bump(v, by) {
					t.Fatalf("%d, step %d: Bump(%d, %d)", n, step, v, by)
				}
				l.activity[v] += by
			case 7:
				h.Halve()
				for i := range l.activity {
					l.activity[i] >>= 1
				}
			}
			activity := map[int]int64{}
			for i, a := range l.activity {
				activity[i] = a
			}
			expect(t, h, n, l.contained(), activity)
		}
	}
}

// P2.1: all of the variables go out and come back within a moment, whatever their order.
func TestMost(t *testing.T) {
	h := newHeap(t, api.MaxVar)
	for v := 1; v <= api.MaxVar; v++ {
		h.Bump(v, int64(v*7919%1000))
	}
	h.Halve()
	first := drain(h)
	for i := 1; i < len(first); i++ {
		v, w := first[i-1], first[i]
		if a, b := h.Activity(v), h.Activity(w); a < b || a == b && v > w {
			t.Fatalf("%d before %d", v, w)
		}
	}
	for v := api.MaxVar; v > 0; v-- {
		h.Put(v)
	}
	if second := drain(h); len(first) != api.MaxVar || !slices.Equal(first, second) {
		t.Errorf("%d and %d variables", len(first), len(second))
	}
}
