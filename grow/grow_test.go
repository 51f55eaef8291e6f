package grow_test

import (
	"math"
	"slices"
	"testing"

	"sandtable/cut"
	"sandtable/graph"
	"sandtable/grow"
	"sandtable/sample"
)

const (
	most    = 1 << 40 // a weight, and what is between two
	manyest = 4096    // things
)

// plainPull is all that is between i and those in part 0, asked pair by pair.
func plainPull(g *graph.Graph, part []int, i int) int64 {
	all := int64(0)
	for j := len(part) - 1; j >= 0; j-- {
		if part[j] == 0 {
			all += g.Between(j, i)
		}
	}
	return all
}

// plainHalve is what Halve must answer: everything asked anew for each thing that goes into 0, from the last one down.
func plainHalve(g *graph.Graph, most int64) []int {
	part := slices.Repeat([]int{1}, g.Len())
	for {
		heavy, goes := int64(0), -1
		for i, p := range part {
			if p == 0 {
				heavy += g.Weight(i)
			}
		}
		for i := len(part) - 1; i >= 0; i-- {
			if part[i] == 1 && heavy+g.Weight(i) <= most && (goes < 0 || plainPull(g, part, i) >= plainPull(g, part, goes)) {
				goes = i
			}
		}
		if goes < 0 {
			return part
		}
		part[goes] = 0
	}
}

// halved holds that a graph is halved as it must be, and as P12.2 says.
func halved(t *testing.T, g *graph.Graph, most int64) {
	t.Helper()
	part := grow.Halve(g, most)
	if want := plainHalve(g, most); !slices.Equal(part, want) {
		t.Fatalf("most %d: %v; want %v; edges %v", most, part, want, slices.Collect(g.Edges()))
	}
	heavy := int64(0)
	for i := range grow.Side(part, 0) {
		heavy += g.Weight(i)
	}
	if heavy > max(most, 0) || !cut.Right(g, part, 2) {
		t.Fatalf("most %d: %v: 0 weighs %d", most, part, heavy)
	}
	for i := range grow.Side(part, 1) {
		if heavy+g.Weight(i) <= most {
			t.Fatalf("most %d: %v: %d would still go in", most, part, i)
		}
	}
}

// P12.1, P12.2: all graphs of up to four things with 0, 1, 2 or the most there may be between them, of like and unlike weights, at any bound.
func TestHalveEveryGraph(t *testing.T) {
	for n := range 5 {
		for _, which := range sample.Chosen(n*(n-1)/2, 0, 1, 2, most) {
			for _, weights := range [][]int64{{1, 1, 1, 1}, {2, 1, 3, 1}} {
				g := sample.Between(weights[:n], which)
				for bound := int64(-1); bound <= g.Total()+1; bound++ {
					halved(t, g, bound)
				}
			}
		}
	}
}

// P12.1, P12.2: greater graphs, made by a short rule: with few unlike numbers, so that several have most, and with many.
func TestHalveMany(t *testing.T) {
	s := sample.Numbers(13)
	for _, n := range []int{5, 9, 24, 60} {
		for round := range 20 {
			weights := make([]int64, n)
			for i := range weights {
				weights[i] = int64(s.Next(1+round) + 1)
			}
			g := sample.Graph(weights)
			for range n * round / 4 {
				g.Join(s.Next(n), s.Next(n), int64(s.Next(2+round*round*round)+1))
			}
			for _, bound := range []int64{0, 1, int64(round), g.Total() / 3, g.Total() / 2, g.Total() - 1, g.Total()} {
				halved(t, g, bound)
			}
		}
	}
}

// P12.1: what decides: most between it and 0, then the first one, of those that still go in; what is between it and 1 doesn't.
func TestHalve(t *testing.T) {
	for i, c := range []struct {
		g    *graph.Graph
		most int64
		part []int
	}{
		{sample.Graph(nil), 5, nil},
		{sample.Graph(sample.Ones(1)), 0, []int{1}},
		{sample.Graph(sample.Ones(1)), 1, []int{0}},
		{sample.Graph([]int64{5, 1, 1}), 2, []int{1, 0, 0}},
		{sample.Graph([]int64{5, 3, 1}), 2, []int{1, 1, 0}},
		{sample.Graph(sample.Ones(4), 2, 3, 9), 1, []int{0, 1, 1, 1}},
		{sample.Graph(sample.Ones(4), 2, 3, 9), 2, []int{0, 0, 1, 1}},
		{sample.Graph(sample.Ones(4), 0, 3, 1, 1, 2, 9), 2, []int{0, 1, 1, 0}},
		{sample.Graph(sample.Ones(4), 0, 3, 1, 1, 2, 9), 3, []int{0, 0, 1, 0}},
		{sample.Graph(sample.Ones(4), 0, 3, 5, 0, 2, 5, 0, 1, 4), 2, []int{0, 1, 0, 1}},
		{sample.Graph(sample.Ones(4), 0, 3, 5, 0, 1, 4, 3, 2, 6), 3, []int{0, 1, 0, 0}},
		{sample.Graph(sample.Ones(4), 0, 1, 5, 0, 2, 3, 0, 3, 4, 1, 2, 2), 3, []int{0, 0, 0, 1}},
		{sample.Graph([]int64{1, 1, 9, 1}, 0, 2, 7, 0, 3, 5), 3, []int{0, 0, 1, 0}},
		{sample.Graph([]int64{1, 1, 9, 1}, 0, 2, 7, 0, 3, 5), 2, []int{0, 1, 1, 0}},
		{sample.Graph([]int64{most, most, most}, 1, 2, most), 2 * most, []int{0, 0, 1}},
		{sample.Graph([]int64{most, most, most}, 1, 2, most), 2*most - 1, []int{0, 1, 1}},
	} {
		if part := grow.Halve(c.g, c.most); !slices.Equal(part, c.part) {
			t.Errorf("case %d: %v; want %v", i, part, c.part)
		}
		halved(t, c.g, c.most)
	}
}

// P12.1: bounds of every size: at none or below everything stays in 1, and none goes round.
func TestHalveBounds(t *testing.T) {
	g := sample.Graph([]int64{most, 1, most - 1, most}, 0, 3, most, 1, 3, 5)
	for _, bound := range []int64{math.MinInt64, math.MinInt64 + 1, -1 << 62, -most, -1, 0, 1, most - 1, most, most + 1, 2*most - 1, 2 * most, 2*most + 1, 3*most - 1, 3 * most, 3*most + 1, 1 << 62, math.MaxInt64 - 1, math.MaxInt64} {
		part := grow.Halve(g, bound)
		if bound < 1 && !slices.Equal(part, []int{1, 1, 1, 1}) || bound >= 3*most && !slices.Equal(part, []int{0, 0, 0, 0}) {
			t.Errorf("%d: %v", bound, part)
		}
		if bound > math.MinInt64/2 && bound < math.MaxInt64/2 { // beyond them the plain rule would go round itself
			halved(t, g, bound)
		}
	}
}

// P12.1: as many things as there may be, with as much between them as may be, in a row and around one.
func TestHalveGreatest(t *testing.T) {
	row, around := sample.Graph(slices.Repeat([]int64{most}, manyest)), sample.Graph(sample.Ones(manyest))
	for i := range manyest - 1 {
		row.Join(i, i+1, most)
		around.Join(i, manyest-1, int64(most-i))
	}
	part := grow.Halve(row, most*manyest/2+most-1)
	for i, p := range part {
		if p != i/(manyest/2) {
			t.Fatalf("row: %d is in %d", i, p)
		}
	}
	part = grow.Halve(around, 3)
	if part[0] != 0 || part[1] != 0 || part[manyest-1] != 0 || len(slices.Collect(grow.Side(part, 1))) != manyest-3 {
		t.Errorf("around: %v", slices.Collect(grow.Side(part, 0)))
	}
	if part = grow.Halve(row, math.MaxInt64); slices.Contains(part, 1) {
		t.Error("all of the row")
	}
	part = slices.Repeat([]int{0}, manyest)
	if all := grow.Pull(around, part, manyest-1); all != around.Degree(manyest-1) {
		t.Errorf("around: %d", all)
	}
}

// P1: of a graph that was never made nothing is halved, and nothing pulls; a zero graph has no things.
func TestNoGraph(t *testing.T) {
	var zero graph.Graph
	for _, g := range []*graph.Graph{nil, &zero} {
		if part := grow.Halve(g, 5); len(part) != 0 {
			t.Errorf("%v", part)
		}
		for _, part := range [][]int{nil, {0}, {0, 0}} {
			if all := grow.Pull(g, part, 0); all != 0 {
				t.Errorf("%v: %d", part, all)
			}
		}
	}
}

// P2: the graph isn't turned, and what is answered is new memory.
func TestHalveIsNew(t *testing.T) {
	g := sample.Graph(sample.Ones(3), 0, 1, 3, 1, 2, 5)
	first := grow.Halve(g, 2)
	clear(first[:cap(first)])
	if part := grow.Halve(g, 2); !slices.Equal(part, []int{0, 0, 1}) {
		t.Errorf("%v", part)
	}
	if edges := slices.Collect(g.Edges()); !slices.Equal(edges, []graph.Edge{{A: 0, B: 1, W: 3}, {A: 1, B: 2, W: 5}}) {
		t.Errorf("%v", edges)
	}
}

// P12.1: all lists of up to five parts, right ones, wrong ones, and such of too few or too many, of each thing and of those that aren't there.
func TestPullEveryList(t *testing.T) {
	g := sample.Graph(sample.Ones(4), 0, 1, 1, 0, 2, 10, 0, 3, 100, 1, 2, 1000, 2, 3, 10000)
	for n := range 6 {
		for _, part := range sample.Lists(n, -1, 2) {
			for _, i := range append(sample.Strangers(4), 0, 1, 2, 3) {
				want := int64(0)
				if n == 4 {
					want = plainPull(g, part, i)
				}
				if all := grow.Pull(g, part, i); all != want {
					t.Fatalf("%v, %d: %d; want %d", part, i, all, want)
				}
			}
		}
	}
}

// P12.1: parts that are no 0, however far off; what is as much as may be.
func TestPullFarParts(t *testing.T) {
	g := sample.Graph(sample.Ones(4), 0, 1, most, 0, 2, most, 0, 3, most)
	for _, p := range append(sample.Strangers(1), 2, 3) {
		if all := grow.Pull(g, []int{p, p, 0, p}, 0); all != most {
			t.Errorf("%d: %d", p, all)
		}
	}
	if all := grow.Pull(g, []int{5, 0, 0, 0}, 0); all != 3*most {
		t.Errorf("%d", all)
	}
	memory := []int{1, 0, 1, 0, 8}
	if all := grow.Pull(g, memory[:4], 0); all != 2*most || !slices.Equal(memory, []int{1, 0, 1, 0, 8}) {
		t.Errorf("%d, turned: %v", all, memory)
	}
}

// plainSide is what Side must tell.
func plainSide(part []int, p int) []int {
	var list []int
	for i := range part {
		if part[i] == p {
			list = append(list, i)
		}
	}
	return list
}

// P12.1: all lists of up to five parts, and any part, there or not.
func TestSideEveryList(t *testing.T) {
	for n := range 6 {
		for _, part := range sample.Lists(n, -1, 2) {
			for _, p := range append(sample.Strangers(2), 0, 1) {
				if got := slices.Collect(grow.Side(part, p)); !slices.Equal(got, plainSide(part, p)) {
					t.Fatalf("%v, %d: %v; want %v", part, p, got, plainSide(part, p))
				}
			}
		}
	}
	if got := slices.Collect(grow.Side(nil, 0)); len(got) != 0 {
		t.Errorf("%v", got)
	}
}

// P12.1: parts however far off, and a list that is longer than a graph may be.
func TestSideFarParts(t *testing.T) {
	for _, p := range sample.Strangers(1) {
		if got := slices.Collect(grow.Side([]int{0, p, 1 << 20, p}, p)); !slices.Equal(got, []int{1, 3}) {
			t.Errorf("%d: %v", p, got)
		}
	}
	part := make([]int, 100000)
	part[99999] = 7
	if got := slices.Collect(grow.Side(part, 7)); !slices.Equal(got, []int{99999}) {
		t.Errorf("%v", got)
	}
	if got := slices.Collect(grow.Side(part, 0)); len(got) != 99999 {
		t.Errorf("%d", len(got))
	}
}

// P12.1: things are stopped at any place, and asked no more.
func TestSideStopped(t *testing.T) {
	part := []int{2, 0, 2, 2, 1, 2}
	want := plainSide(part, 2)
	for stop := 1; stop < 6; stop++ {
		var got []int
		grow.Side(part, 2)(func(i int) bool {
			got = append(got, i)
			return len(got) < stop
		})
		if !slices.Equal(got, want[:min(stop, len(want))]) {
			t.Errorf("stopped at %d: %v", stop, got)
		}
	}
}

// P2: what is gone through is what was handed in, again and again, whatever is written over it; it isn't turned.
func TestSideAsItWas(t *testing.T) {
	memory := []int{2, 0, 2, 1, 2, 8}
	seq := grow.Side(memory[:5], 2)
	if !slices.Equal(slices.Collect(seq), []int{0, 2, 4}) || !slices.Equal(memory, []int{2, 0, 2, 1, 2, 8}) {
		t.Errorf("turned: %v", memory)
	}
	clear(memory)
	for range 3 {
		var got []int
		for i := range seq {
			got = append(got, i)
			memory[i] = 2 - memory[i]
		}
		if !slices.Equal(got, []int{0, 2, 4}) {
			t.Errorf("%v", got)
		}
	}
}

// The chapter's example.
func TestExample(t *testing.T) {
	if part := grow.Halve(sample.Graph(sample.Ones(3)), 2); !slices.Equal(part, []int{0, 0, 1}) {
		t.Error(part)
	}
}
