package cut_test

import (
	"math"
	"slices"
	"testing"

	"sandtable/cut"
	"sandtable/graph"
	"sandtable/sample"
)

const (
	most    = 1 << 40 // a weight, and what is between two
	manyest = 4096    // things, and parts
)

// wrongCounts are no numbers of parts.
func wrongCounts() []int {
	return []int{0, -1, manyest + 1, -manyest, 1 << 32, 1<<32 + 2, math.MaxInt, math.MinInt}
}

// plainCut is what the cut must be: each pair from both sides, halved.
func plainCut(g *graph.Graph, part []int) int64 {
	twice := int64(0)
	for a := range part {
		for b := range part {
			if part[a] != part[b] {
				twice += g.Between(a, b)
			}
		}
	}
	return twice / 2
}

// plainWeights is what the parts must weigh, part by part.
func plainWeights(g *graph.Graph, part []int, k int) []int64 {
	list := make([]int64, k)
	for p := range k {
		for i := range part {
			if part[i] == p {
				list[p] += g.Weight(i)
			}
		}
	}
	return list
}

// plainBound is what the bound must be: counted up.
func plainBound(g *graph.Graph, k int) int64 {
	share, greatest := int64(0), int64(0)
	for share*int64(k) < g.Total() {
		share++
	}
	for i := range g.Len() {
		if g.Weight(i) > greatest {
			greatest = g.Weight(i)
		}
	}
	return share + greatest
}

// same holds that each call answers of right parts as it must.
func same(t *testing.T, g *graph.Graph, part []int, k int) {
	t.Helper()
	if !cut.Right(g, part, k) {
		t.Fatalf("%v of %d: not right", part, k)
	}
	if n := cut.Cut(g, part, k); n != plainCut(g, part) {
		t.Fatalf("%v of %d: Cut %d; want %d", part, k, n, plainCut(g, part))
	}
	weights, all := cut.Weights(g, part, k), int64(0)
	if !slices.Equal(weights, plainWeights(g, part, k)) {
		t.Fatalf("%v of %d: Weights %v; want %v", part, k, weights, plainWeights(g, part, k))
	}
	for _, w := range weights {
		all += w
	}
	if all != g.Total() {
		t.Fatalf("%v of %d: all weigh %d; want %d", part, k, all, g.Total())
	}
	if cut.Bound(g, k) != plainBound(g, k) || cut.Fits(g, part, k) != (slices.Max(weights) <= plainBound(g, k)) {
		t.Fatalf("%v of %d: Bound %d, Fits %v; want %d of %v", part, k, cut.Bound(g, k), cut.Fits(g, part, k), plainBound(g, k), weights)
	}
	gains(t, g, part, k)
}

// gains holds that what each thing gains is what the cut falls by.
func gains(t *testing.T, g *graph.Graph, part []int, k int) {
	t.Helper()
	for i := range part {
		for to := range k {
			moved := slices.Clone(part)
			moved[i] = to
			n := cut.Gain(g, part, k, i, to)
			if n != plainCut(g, part)-plainCut(g, moved) || n != cut.Cut(g, part, k)-cut.Cut(g, moved, k) {
				t.Fatalf("%v of %d: Gain(%d, %d): %d; want %d", part, k, i, to, n, plainCut(g, part)-plainCut(g, moved))
			}
		}
	}
}

// nothing holds that each call answers nothing of parts that aren't right.
func nothing(t *testing.T, g *graph.Graph, part []int, k int) {
	t.Helper()
	if cut.Right(g, part, k) || cut.Cut(g, part, k) != 0 || len(cut.Weights(g, part, k)) != 0 || cut.Fits(g, part, k) {
		t.Errorf("%v of %d: Right %v, Cut %d, Weights %v, Fits %v", part, k, cut.Right(g, part, k), cut.Cut(g, part, k), cut.Weights(g, part, k), cut.Fits(g, part, k))
	}
	for i := range len(part) + 1 {
		for to := range 4 {
			if n := cut.Gain(g, part, k, i, to); n != 0 {
				t.Errorf("%v of %d: Gain(%d, %d): %d", part, k, i, to, n)
			}
		}
	}
}

// P9.1, P9.2: all parts of all graphs of up to four things with 0, 1 or 5 between them.
func TestEveryGraphAndParts(t *testing.T) {
	for n := range 5 {
		for _, which := range sample.Chosen(n*(n-1)/2, 0, 1, 5) {
			g := sample.Between([]int64{4, 1, 3, 2}[:n], which)
			for k := 1; k <= 3; k++ {
				for _, part := range sample.Lists(n, 0, k-1) {
					same(t, g, part, k)
				}
			}
		}
	}
}

// P9.1, P9.2: greater graphs, made by a short rule.
func TestMany(t *testing.T) {
	s := sample.Numbers(9)
	for _, n := range []int{5, 12, 30} {
		for round := range 12 {
			var weights []int64
			for range n {
				weights = append(weights, int64(s.Next(100)+1))
			}
			g := sample.Graph(weights)
			for range n * round {
				g.Join(s.Next(n), s.Next(n), int64(s.Next(1<<20)+1)<<s.Next(20))
			}
			for _, k := range []int{1, 2, 3, n, n + 5} {
				part := make([]int, n)
				for i := range part {
					part[i] = s.Next(k)
				}
				same(t, g, part, k)
			}
		}
	}
}

// P9.1: as many things, and as many parts, as right ones need.
func TestRightCounts(t *testing.T) {
	for n := range 6 {
		g := sample.Graph(sample.Ones(n))
		for many := range 8 {
			part := make([]int, many)
			for _, k := range []int{1, 2, 3, manyest - 1, manyest} {
				if cut.Right(g, part, k) != (many == n) {
					t.Errorf("%d things, %d parts of %d", n, many, k)
				}
				if many != n {
					nothing(t, g, part, k)
				}
			}
			for _, k := range wrongCounts() {
				nothing(t, g, part, k)
			}
		}
	}
}

// P9.1: a part that there isn't, wherever it stands, and ones at the bounds.
func TestRightParts(t *testing.T) {
	g := sample.Graph([]int64{1, 2, 3, 4}, 0, 1, 7, 1, 2, 5, 0, 3, 2)
	for _, k := range []int{1, 2, 3, manyest} {
		for at := range 4 {
			for _, p := range append(sample.Strangers(k), 0, k-1) {
				part := make([]int, 4)
				part[at] = p
				if p < 0 || p >= k {
					nothing(t, g, part, k)
				} else if !cut.Right(g, part, k) {
					t.Errorf("%v of %d: not right", part, k)
				}
			}
		}
	}
}

// P9.1: a thing or a part that there isn't gains nothing.
func TestGainStrangers(t *testing.T) {
	g := sample.Graph([]int64{1, 2, 3, 4}, 0, 1, 7, 1, 2, 5, 0, 3, 2)
	part := []int{0, 1, 1, 0}
	for _, k := range []int{2, 3, 5} {
		for _, i := range append(sample.Strangers(4), 0, 1, 2, 3) {
			for _, to := range append(sample.Strangers(k), 0, 1) {
				if n := cut.Gain(g, part, k, i, to); n != 0 && (i < 0 || i > 3 || to < 0 || to >= k) {
					t.Errorf("%d: Gain(%d, %d): %d", k, i, to, n)
				}
			}
		}
	}
	if cut.Gain(g, part, 2, 0, 1) != 5 || cut.Gain(g, part, 3, 0, 2) != -2 {
		t.Error("those that there are")
	}
}

// P9.1: a graph of nothing has right parts, and weighs nothing.
func TestNothing(t *testing.T) {
	g := sample.Graph(nil)
	for _, part := range [][]int{nil, {}} {
		for _, k := range []int{1, 2, manyest} {
			if !cut.Right(g, part, k) || !cut.Fits(g, part, k) || cut.Cut(g, part, k) != 0 || cut.Bound(g, k) != 0 {
				t.Errorf("%d", k)
			}
			if !slices.Equal(cut.Weights(g, part, k), make([]int64, k)) || cut.Gain(g, part, k, 0, 0) != 0 {
				t.Errorf("%d: Weights, Gain", k)
			}
		}
		for _, k := range wrongCounts() {
			nothing(t, g, part, k)
		}
	}
	nothing(t, g, []int{0}, 1)
}

// P1: of a graph that was never made there is nothing.
func TestNoGraph(t *testing.T) {
	for _, part := range [][]int{nil, {0}, {0, 1}} {
		for _, k := range append(wrongCounts(), 1, 2) {
			nothing(t, nil, part, k)
			if cut.Bound(nil, k) != 0 {
				t.Errorf("%d: %d", k, cut.Bound(nil, k))
			}
		}
	}
	var zero graph.Graph
	same(t, &zero, nil, 3)
}

// P9.1: the share is rounded up, and the greatest weight comes on top of it, wherever it stands.
func TestBound(t *testing.T) {
	for _, c := range []struct {
		weights []int64
		k       int
		bound   int64
	}{
		{[]int64{1, 2, 3, 4}, 1, 14}, {[]int64{1, 2, 3, 4}, 2, 9}, {[]int64{1, 2, 3, 4}, 3, 8}, {[]int64{1, 2, 3, 4}, 5, 6},
		{[]int64{4, 3, 2, 1}, 9, 6}, {[]int64{1, 4, 2, 3}, 10, 5}, {[]int64{1, 2, 3, 4}, 11, 5}, {[]int64{1, 2, 3, 4}, manyest, 5},
		{[]int64{1}, 1, 2}, {[]int64{1}, 2, 2}, {[]int64{7}, manyest, 8}, {[]int64{3, 3}, 2, 6}, {[]int64{3, 4}, 2, 8},
		{[]int64{most}, 1, 2 * most}, {[]int64{most}, 2, most/2 + most}, {[]int64{most - 1}, 2, most/2 + most - 1}, {[]int64{most, 1}, 2, most/2 + 1 + most},
		{slices.Repeat([]int64{most}, manyest), 1, manyest*most + most}, {slices.Repeat([]int64{most}, manyest), manyest, 2 * most},
		{slices.Repeat([]int64{most}, manyest), manyest - 1, manyest*most/(manyest-1) + 1 + most},
		{nil, 1, 0}, {nil, manyest, 0},
	} {
		g := sample.Graph(c.weights)
		if n := cut.Bound(g, c.k); n != c.bound {
			t.Errorf("%d weights, %d parts: %d; want %d", len(c.weights), c.k, n, c.bound)
		}
		for _, k := range wrongCounts() {
			if n := cut.Bound(g, k); n != 0 {
				t.Errorf("%d parts: %d", k, n)
			}
		}
	}
}

// P9.1: a part just at the bound fits, and one that is above it by 1 doesn't, whichever it is.
func TestFits(t *testing.T) {
	for _, c := range []struct {
		weights []int64
		fits    bool
	}{
		{[]int64{2, 2, 2, 2, 2, 2}, true}, // 8 of a bound of 8
		{[]int64{2, 2, 1, 2, 2, 2}, true}, // 7 of 8
		{[]int64{3, 2, 2, 2, 2, 1}, true}, // 9 of 9
		{[]int64{3, 3, 2, 2, 1, 1}, false},
		{[]int64{3, 3, 3, 3, 1, 1}, false},
	} {
		g := sample.Graph(c.weights)
		for _, heavy := range []int{0, 1} {
			part := []int{heavy, heavy, heavy, heavy, 1 - heavy, 1 - heavy}
			if cut.Fits(g, part, 2) != c.fits {
				t.Errorf("%v, %v: bound %d, weights %v", c.weights, part, cut.Bound(g, 2), cut.Weights(g, part, 2))
			}
		}
		if !cut.Fits(g, make([]int, 6), 1) {
			t.Errorf("%v: all of it", c.weights)
		}
	}
}

// star is a graph of n things, the last of which has the most that may be between it and each other one.
func star(t *testing.T, n int) *graph.Graph {
	g := sample.Graph(slices.Repeat([]int64{most}, n))
	for i := range n - 1 {
		g.Join(i, n-1, most)
	}
	return g
}

// P9.1, P9.2: the greatest numbers there are: no sum goes round, and each thing may be a part of its own.
func TestGreatest(t *testing.T) {
	g := star(t, manyest)
	part := make([]int, manyest)
	part[manyest-1] = 1
	if n := cut.Cut(g, part, 2); n != (manyest-1)*most {
		t.Errorf("Cut %d", n)
	}
	if !slices.Equal(cut.Weights(g, part, 2), []int64{(manyest - 1) * most, most}) || cut.Fits(g, part, 2) {
		t.Errorf("Weights %v", cut.Weights(g, part, 2))
	}
	for to, gain := range []int64{(manyest - 1) * most, 0, 0} {
		if n := cut.Gain(g, part, 3, manyest-1, to); n != gain {
			t.Errorf("Gain to %d: %d", to, n)
		}
	}
	for i := range part {
		part[i] = i
	}
	if n := cut.Cut(g, part, manyest); n != (manyest-1)*most || !cut.Fits(g, part, manyest) {
		t.Errorf("each alone: Cut %d, Fits %v", n, cut.Fits(g, part, manyest))
	}
	if !slices.Equal(cut.Weights(g, part, manyest), slices.Repeat([]int64{most}, manyest)) {
		t.Error("each alone: Weights")
	}
	nothing(t, g, part, manyest-1)
}

// P2: the parts that are handed in, and the memory behind them, aren't turned, nor is the graph; weights are new memory.
func TestNotTurned(t *testing.T) {
	g := sample.Graph([]int64{1, 2, 3}, 0, 1, 7, 1, 2, 5)
	memory := []int{0, 1, 1, 8, 9}
	part := memory[:3]
	first := cut.Weights(g, part, 2)
	second := cut.Weights(g, part, 2)
	cut.Right(g, part, 2)
	cut.Cut(g, part, 2)
	cut.Gain(g, part, 2, 0, 1)
	cut.Fits(g, part, 2)
	for range cut.Empty(part, 9) {
	}
	if !slices.Equal(memory, []int{0, 1, 1, 8, 9}) {
		t.Errorf("turned: %v", memory)
	}
	clear(first[:cap(first)])
	if !slices.Equal(second, []int64{1, 5}) || g.Weight(0) != 1 || g.Total() != 6 || g.Degree(1) != 12 {
		t.Errorf("shared: %v", second)
	}
	same(t, g, part, 2)
}

// plainEmpty is what Empty must tell.
func plainEmpty(part []int, k int) []int {
	var list []int
	for p := 0; p < k; p++ {
		if !slices.Contains(part, p) {
			list = append(list, p)
		}
	}
	return list
}

// P9.1: all short lists, with numbers that are no parts among them, and all that begin so.
func TestEmpty(t *testing.T) {
	for n := range 5 {
		for _, part := range sample.Lists(n, 0, 5) {
			for i := range part {
				part[i]-- // from -1 to 4
			}
			for k := -2; k < 7; k++ {
				if got := slices.Collect(cut.Empty(part, k)); !slices.Equal(got, plainEmpty(part, k)) {
					t.Fatalf("%v of %d: %v; want %v", part, k, got, plainEmpty(part, k))
				}
			}
		}
	}
}

// P9.1: parts needn't be right to be empty: there may be more of them than a graph can have, or none.
func TestEmptyOfWrongParts(t *testing.T) {
	part := []int{math.MinInt, 5000, -1, math.MaxInt, 0, 5000, 4096}
	for _, k := range []int{math.MinInt, -1, 0, 1, 4096, 4097, 5000, 5001, 9000} {
		if got := slices.Collect(cut.Empty(part, k)); !slices.Equal(got, plainEmpty(part, k)) {
			t.Errorf("%d: %d parts", k, len(got))
		}
		if got := slices.Collect(cut.Empty(nil, k)); len(got) != max(k, 0) {
			t.Errorf("nothing of %d: %d parts", k, len(got))
		}
	}
}

// firsts is what an Empty tells, stopped at the n-th.
func firsts(part []int, k, n int) []int {
	var got []int
	cut.Empty(part, k)(func(p int) bool {
		got = append(got, p)
		return len(got) < n
	})
	return got
}

// P9.1: it is stopped at any place, and asked no more: of very many parts only as many are made.
func TestEmptyStopped(t *testing.T) {
	part := []int{7, 1, 4, 1}
	for stop := 1; stop < 12; stop++ {
		for _, k := range []int{1, 5, 9, 1 << 40, math.MaxInt} {
			want := plainEmpty(part, min(k, 100))
			if got := firsts(part, k, stop); !slices.Equal(got, want[:min(stop, len(want))]) {
				t.Errorf("%d, stopped at %d: %v", k, stop, got)
			}
		}
	}
}

// P2: what is gone through is what was handed in, again and again, whatever is written over it.
func TestEmptyAsItWas(t *testing.T) {
	part := []int{1, 3, 1}
	seq := cut.Empty(part, 5)
	clear(part)
	for range 3 {
		var got []int
		for p := range seq {
			got = append(got, p)
			part[0] = p + 1
		}
		if !slices.Equal(got, []int{0, 2, 4}) {
			t.Errorf("%v", got)
		}
	}
}

// The chapter's example.
func TestExample(t *testing.T) {
	g := sample.Graph([]int64{1, 1}, 0, 1, 7)
	if n := cut.Cut(g, []int{0, 1}, 2); n != 7 {
		t.Error(n)
	}
}
