package bits_test

import (
	"math"
	"math/rand/v2"
	"slices"
	"testing"

	"weirgate/api"
	"weirgate/bits"
	"weirgate/graph"
)

// P6.1: with the width that each w is limited to.
func TestTrim(t *testing.T) {
	for _, c := range []struct{ n, w, want int }{
		{0, 1, 0}, {1, 1, -1}, {-1, 1, -1}, {2, 1, 0}, {3, 1, -1}, {-2, 1, 0},
		{1, 2, 1}, {2, 2, -2}, {3, 2, -1}, {4, 2, 0}, {-2, 2, -2}, {-3, 2, 1},
		{7, 4, 7}, {8, 4, -8}, {15, 4, -1}, {16, 4, 0}, {-8, 4, -8}, {-9, 4, 7}, {1000, 4, -8},
		{127, 8, 127}, {128, 8, -128}, {200, 8, -56}, {-128, 8, -128}, {-129, 8, 127},
		{32767, 16, 32767}, {32768, 16, -32768}, {65535, 16, -1}, {-32769, 16, 32767},
		{5, 0, -1}, {4, 0, 0}, {5, -1, -1}, {4, -100, 0}, {5, math.MinInt, -1},
		{32768, 17, -32768}, {65536, 17, 0}, {70000, 64, 4464}, {-40000, 1000, 25536}, {98304, math.MaxInt, -32768},
		{math.MaxInt, 16, -1}, {math.MinInt, 16, 0}, {math.MaxInt, 1, -1}, {math.MinInt, 1, 0}, {math.MinInt + 5, 3, -3}, {1 << 32, 16, 0}, {1<<32 + 9, 5, 9},
	} {
		if got := bits.Trim(c.n, c.w); got != c.want {
			t.Errorf("Trim(%d, %d) is %d, not %d", c.n, c.w, got, c.want)
		}
	}
}

// P6.1: its words.
func TestTrimOfMany(t *testing.T) {
	r := rand.New(rand.NewPCG(6, 1))
	for w := 1; w <= api.MaxWidth; w++ {
		for range 2000 {
			n := int(r.Uint64()) >> r.IntN(64)
			got := bits.Trim(n, w)
			if got < -1<<(w-1) || got >= 1<<(w-1) || uint64(n-got)%(1<<w) != 0 {
				t.Fatalf("Trim(%d, %d) is %d", n, w, got)
			}
		}
	}
}

// P6.1.
func TestBits(t *testing.T) {
	for _, c := range []struct {
		n, w int
		want string
	}{
		{0, 1, "0"}, {1, 1, "1"}, {-1, 1, "1"}, {2, 1, "0"},
		{1, 4, "1000"}, {6, 4, "0110"}, {-8, 4, "0001"}, {8, 4, "0001"}, {-3, 4, "1011"}, {-1, 4, "1111"}, {16, 4, "0000"}, {17, 4, "1000"},
		{-2, 16, "0111111111111111"}, {4660, 16, "0010110001001000"}, {65536, 16, "0000000000000000"},
		{1, 0, "1"}, {2, -7, "0"}, {3, math.MinInt, "1"},
		{-32768, 17, "0000000000000001"}, {65537, 99, "1000000000000000"}, {-1, math.MaxInt, "1111111111111111"},
		{math.MinInt, 3, "000"}, {math.MaxInt, 3, "111"},
	} {
		got := ""
		for _, b := range bits.Bits(c.n, c.w) {
			got += map[bool]string{false: "0", true: "1"}[b]
		}
		if got != c.want {
			t.Errorf("Bits(%d, %d) is %s, not %s", c.n, c.w, got, c.want)
		}
	}
}

// P6.1: for more than 16 bits only the first 16 count.
func TestValue(t *testing.T) {
	on := slices.Repeat([]bool{true}, 100)
	off := make([]bool, 100)
	for _, c := range []struct {
		bs   []bool
		want int
	}{
		{nil, 0}, {[]bool{}, 0}, {[]bool{false}, 0}, {[]bool{true}, -1},
		{[]bool{true, false}, 1}, {[]bool{false, true}, -2}, {[]bool{true, true}, -1},
		{[]bool{true, false, true, false}, 5}, {[]bool{false, false, false, true}, -8},
		{off[:16], 0}, {on[:16], -1}, {slices.Concat(on[:15], off[:1]), 32767}, {slices.Concat(off[:15], on[:1]), -32768},
		{on[:17], -1}, {slices.Concat(off[:16], on[:1]), 0}, {slices.Concat(off[:15], on[:1], off[:1]), -32768},
		{slices.Concat(on[:15], off[:1], on), 32767}, {slices.Concat(on[:1], off[:15], on), 1}, {off, 0},
	} {
		if got := bits.Value(c.bs); got != c.want {
			t.Errorf("Value(%v) is %d, not %d", c.bs, got, c.want)
		}
	}
}

// P6.1: Value, Bits and Const are of one mind.
func TestNumbers(t *testing.T) {
	for w := 1; w <= api.MaxWidth; w++ {
		for _, n := range numbers(w) {
			bs := bits.Bits(n, w)
			if !slices.Equal(bs, digits(n, w)) || bits.Value(bs) != n || bits.Trim(n, w) != n {
				t.Fatalf("%d of %d bits is %v, whose value is %d", n, w, bs, bits.Value(bs))
			}
			if v := bits.Const(n, w); !slices.Equal(v, constant(n, w)) {
				t.Fatalf("%d of %d bits is the vector %v", n, w, v)
			}
		}
	}
}

// P6.1.
func TestConst(t *testing.T) {
	for _, c := range []struct {
		n, w int
		want []int
	}{
		{6, 4, []int{0, 1, 1, 0}}, {-3, 4, []int{1, 0, 1, 1}}, {22, 4, []int{0, 1, 1, 0}}, {1, 1, []int{1}},
		{5, 0, []int{1}}, {4, -3, []int{0}}, {7, math.MinInt, []int{1}},
		{1, 17, constant(1, 16)}, {65536, 99, constant(0, 16)}, {-1, math.MaxInt, constant(-1, 16)},
		{math.MaxInt, 2, []int{1, 1}}, {math.MinInt, 2, []int{0, 0}},
	} {
		if got := bits.Const(c.n, c.w); !slices.Equal(got, c.want) {
			t.Errorf("Const(%d, %d) is %v, not %v", c.n, c.w, got, c.want)
		}
	}
}

// P6.1.
func TestInputs(t *testing.T) {
	g := graph.New()
	var all []int
	for _, c := range []struct{ w, want int }{{3, 3}, {1, 1}, {0, 1}, {-4, 1}, {math.MinInt, 1}, {16, 16}, {17, 16}, {math.MaxInt, 16}} {
		v := bits.Inputs(g, c.w)
		if len(v) != c.want {
			t.Errorf("Inputs of %d bits are %v", c.w, v)
		}
		all = append(all, v...)
		g.And(all[0], v[0])
	}
	if !slices.Equal(g.Inputs(), all) {
		t.Errorf("the graph has the inputs %v, not %v", g.Inputs(), all)
	}
}

// P6.1.
func TestWide(t *testing.T) {
	for _, c := range []struct {
		v    []int
		w    int
		want []int
	}{
		{[]int{2, 5, 6}, 3, []int{2, 5, 6}}, {[]int{2, 5, 6}, 2, []int{2, 5}}, {[]int{2, 5, 6}, 1, []int{2}},
		{[]int{2, 5, 6}, 4, []int{2, 5, 6, 6}}, {[]int{2, 5, 7}, 6, []int{2, 5, 7, 7, 7, 7}}, {[]int{4}, 3, []int{4, 4, 4}},
		{[]int{0, 1}, 4, []int{0, 1, 1, 1}}, {[]int{1, 0}, 4, []int{1, 0, 0, 0}},
		{[]int{2, 4}, 0, []int{2}}, {[]int{2, 4}, -9, []int{2}}, {[]int{2, 4}, math.MinInt, []int{2}},
		{[]int{2, 4}, 17, append([]int{2}, slices.Repeat([]int{4}, 15)...)}, {[]int{5}, math.MaxInt, slices.Repeat([]int{5}, 16)},
		{slices.Repeat([]int{2, 4}, 8), 16, slices.Repeat([]int{2, 4}, 8)}, {slices.Repeat([]int{2, 4}, 8), 5, []int{2, 4, 2, 4, 2}},
	} {
		if got := bits.Wide(c.v, c.w); !slices.Equal(got, c.want) {
			t.Errorf("Wide(%v, %d) is %v, not %v", c.v, c.w, got, c.want)
		}
	}
	for _, v := range noVectors() {
		for _, w := range []int{1, 3, 16, 17} {
			if got := bits.Wide(v, w); !slices.Equal(got, make([]int, min(w, 16))) {
				t.Errorf("Wide(%v, %d) is %v", v, w, got)
			}
		}
	}
}

// P6.1: the number stays, or becomes what its lowest bits represent.
func TestWideKeepsNumbers(t *testing.T) {
	g := graph.New()
	for w := 1; w <= 6; w++ {
		for _, n := range numbers(w) {
			for wide := 1; wide <= api.MaxWidth; wide++ {
				if got := read(g, nil, bits.Wide(constant(n, w), wide)); got != wrap(n, wide) {
					t.Errorf("%d of %d bits with %d is %d", n, w, wide, got)
				}
			}
		}
	}
}

// P6.1 to P6.3: no result is an argument, or shared with another one; no argument is changed.
func TestMemory(t *testing.T) {
	g := graph.New()
	whole := inputs(g, 12)
	saved := slices.Clone(whole)
	a, b := whole[:3], whole[6:9]
	calls := []func() []int{
		func() []int { return bits.Wide(a, 3) }, func() []int { return bits.Wide(a, 2) }, func() []int { return bits.Wide(a, 5) },
		func() []int { return bits.Wide(nil, 2) }, func() []int { return bits.Const(5, 4) },
		func() []int { return bits.Add(g, a, nil) }, func() []int { return bits.Sub(g, a, nil) }, func() []int { return bits.Mul(g, a, []int{1, 0}) },
		func() []int { return bits.Div(g, a, []int{1, 0}) }, func() []int { return bits.Rem(g, a, b) },
		func() []int { return bits.Mux(g, 1, a, b) }, func() []int { return bits.Mux(g, 0, a, b) }, func() []int { return bits.Mux(g, 1, a, a) },
		func() []int { return []int{bits.Same(g, a, b), bits.Less(g, a, b), bits.Some(g, a)} },
	}
	for i, call := range calls {
		first := call()
		kept := slices.Clone(first)
		second := call()
		for j := range second[:cap(second)] {
			second[:cap(second)][j] = 7777
		}
		if !slices.Equal(first, kept) || !slices.Equal(whole, saved) || !slices.Equal(call(), kept) {
			t.Errorf("call %d: %v, then %v; the arguments are %v", i, kept, first, whole)
		}
	}
	x, y := bits.Inputs(g, 3), bits.Inputs(g, 3)
	kept := g.Inputs()
	clear(x[:cap(x)])
	if slices.Contains(y, 0) || !slices.Equal(g.Inputs(), kept) {
		t.Errorf("the inputs are %v, and those of the graph %v", y, g.Inputs())
	}
	whole = []int{1, 0, 1, 99, -5}
	bits.Less(g, whole[:4], whole[:3])
	if !slices.Equal(whole, []int{1, 0, 1, 99, -5}) {
		t.Errorf("the arguments became %v", whole)
	}
	bs := []bool{true, false, true}
	if bits.Value(bs[:2]) != 1 || !slices.Equal(bs, []bool{true, false, true}) {
		t.Errorf("the bits became %v", bs)
	}
	clear(bits.Bits(5, 3))
	if !slices.Equal(bits.Bits(5, 3), bs) {
		t.Errorf("5 is %v", bits.Bits(5, 3))
	}
}
