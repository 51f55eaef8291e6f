package parts_test

import (
	"math"
	"slices"
	"testing"

	"sandtable/api"
	"sandtable/cut"
	"sandtable/graph"
	"sandtable/parts"
	"sandtable/sample"
)

const (
	most    = 1 << 40 // a weight, and what is between two
	manyest = 4096    // things, and parts
)

// plainBound is the least number that, times k, is at least the whole weight, and the greatest weight.
func plainBound(g *graph.Graph, k int) int64 {
	greatest := int64(0)
	for i := range g.Len() {
		greatest = max(greatest, g.Weight(i))
	}
	share := g.Total() / int64(k)
	if share*int64(k) < g.Total() {
		share++
	}
	return share + greatest
}

// plainFits tells whether parts are right, none is above the bound, and none is empty, if there are as many things.
func plainFits(g *graph.Graph, part []int, k int) bool {
	if len(part) != g.Len() {
		return false
	}
	weights, counts := make([]int64, k), make([]int, k)
	for i, p := range part {
		if p < 0 || p >= k {
			return false
		}
		weights[p] += g.Weight(i)
		counts[p]++
	}
	return slices.Max(weights) <= plainBound(g, k) && (g.Len() < k || !slices.Contains(counts, 0))
}

// split is a graph's parts, which must be right, fit, and be the same again.
func split(t *testing.T, g *graph.Graph, k int) []int {
	t.Helper()
	edges := slices.Collect(g.Edges())
	part, e := parts.Split(g, k)
	if e != api.OK || !plainFits(g, part, k) {
		t.Fatalf("into %d: %v, %d; edges %v", k, part, e, edges)
	}
	again, e := parts.Split(g, k)
	if e != api.OK || !slices.Equal(again, part) || !slices.Equal(slices.Collect(g.Edges()), edges) {
		t.Fatalf("into %d: %v, then %v; edges %v", k, part, again, edges)
	}
	return part
}

// P14.1, P14.2: all graphs of up to four things with nothing, a little, or the most there may be between them, of like and unlike weights, into more and fewer parts.
func TestSplitEveryGraph(t *testing.T) {
	for n := range 5 {
		for _, which := range sample.Chosen(n*(n-1)/2, 0, 1, most) {
			for _, weights := range [][]int64{{1, 1, 1, 1}, {2, 1, 3, 1}, {1, 9, 1, 1}, {most, 1, most - 1, 5}} {
				g := sample.Between(weights[:n], which)
				for k := 1; k < 6; k++ {
					split(t, g, k)
				}
			}
		}
	}
}

// graphs is graphs of about n things, made by a short rule, of like and unlike weights, with little and much between them.
func graphs(n, rounds int) []*graph.Graph {
	s := sample.Numbers(n)
	var all []*graph.Graph
	for round := range rounds {
		weights := make([]int64, s.Next(n)+1)
		for i := range weights {
			weights[i] = int64(s.Next(1+round*round) + 1)
		}
		if round%5 == 4 {
			weights[0] *= 1000
		}
		g := sample.Graph(weights)
		for range len(weights) * (round % 7) / 2 {
			g.Join(s.Next(len(weights)), s.Next(len(weights)), int64(s.Next(2+round)+1))
		}
		all = append(all, g)
	}
	return all
}

// P14.1, P14.2: greater graphs, into all numbers of parts about those of things, and the greatest number.
func TestSplitMany(t *testing.T) {
	for _, g := range graphs(24, 15) {
		for k := 1; k < g.Len()+4; k++ {
			split(t, g, k)
		}
		split(t, g, manyest)
	}
	for _, g := range graphs(200, 10) {
		for _, k := range []int{1, 2, 3, 5, 8, 31, g.Len()/3 + 1, g.Len()/2 + 1, g.Len(), g.Len() + 1} {
			split(t, g, k)
		}
	}
}

// P14.1: numbers of parts at their bounds, and beyond, also of no graph, and of one of nothing.
func TestSplitCounts(t *testing.T) {
	for _, g := range []*graph.Graph{sample.Graph(sample.Ones(3), 0, 1, 5), sample.Graph(nil), new(graph.Graph)} {
		for _, k := range []int{1, 2, 4095, 4096} {
			split(t, g, k)
		}
	}
	for _, g := range []*graph.Graph{sample.Graph(sample.Ones(3), 0, 1, 5), sample.Graph(nil), nil} {
		for _, k := range []int{0, -1, 4097, -4096, 1 << 32, 1<<32 + 2, math.MaxInt, math.MinInt} {
			if part, e := parts.Split(g, k); len(part) != 0 || e != api.ErrArg {
				t.Errorf("%d: %v, %d", k, part, e)
			}
		}
	}
}

// P1: a graph that was never made isn't split; of none parts are right.
func TestNoGraph(t *testing.T) {
	if part, e := parts.Split(nil, 3); len(part) != 0 || e != api.OK {
		t.Errorf("%v, %d", part, e)
	}
	for _, part := range [][]int{nil, {0}} {
		if part, e := parts.Mend(nil, part, 3); len(part) != 0 || e != api.ErrArg {
			t.Errorf("%v, %d", part, e)
		}
	}
}

// P14.1, P14.2: as many things as there may be, as heavy, and with as much between them, as may be: in a row, around one, in pairs, and with nothing.
func TestSplitGreatest(t *testing.T) {
	row, around := sample.Graph(slices.Repeat([]int64{most}, manyest)), sample.Graph(sample.Ones(manyest))
	for i := range manyest - 1 {
		row.Join(i, i+1, most)
		around.Join(i, manyest-1, most)
	}
	pairs := sample.Graph(sample.Ones(manyest))
	for i := range manyest / 2 {
		pairs.Join(i, manyest-1-i, most)
	}
	for i, c := range []struct {
		g      *graph.Graph
		k      int
		little int64 // no cut into so many can be less
		much   int64 // and it mustn't be more
	}{
		{row, 2, 1, 1}, {row, 3, 2, 3}, {row, 64, 63, 70}, {row, 4095, 4094, 4094}, {row, 4096, 4095, 4095},
		{around, 2, 2047, 2047}, {around, 4096, 4095, 4095},
		{pairs, 2, 0, 0}, {pairs, 2048, 0, 0}, {pairs, 4096, 2048, 2048},
		{sample.Graph(sample.Ones(manyest)), 1000, 0, 0},
	} {
		part, e := parts.Split(c.g, c.k)
		if now := cut.Cut(c.g, part, c.k) / most; e != api.OK || !plainFits(c.g, part, c.k) || now < c.little || now > c.much {
			t.Errorf("case %d: %d, cut %d", i, e, now)
		}
	}
}

// cliques is a ring of sets of things; those of a set have much with each other, each two sets have a little. Things are numbered from set to set, so that none stands beside one of its own.
func cliques(sets, size int) *graph.Graph {
	g := sample.Graph(sample.Ones(sets * size))
	at := func(set, i int) int { return i*sets + set%sets }
	for set := range sets {
		for b := range size {
			for a := range b {
				g.Join(at(set, a), at(set, b), 5)
			}
		}
		g.Join(at(set, 0), at(set+1, size-1), 1)
	}
	return g
}

// grid is a grid of things.
func grid(wide, high int) *graph.Graph {
	g := sample.Graph(sample.Ones(wide * high))
	for i := range wide * high {
		if i%wide > 0 {
			g.Join(i-1, i, 1)
		}
		if i >= wide {
			g.Join(i-wide, i, 1)
		}
	}
	return g
}

// P14.1: a better cut is sought: it is found where it is to be seen.
func TestSplitCutsLittle(t *testing.T) {
	for i, c := range []struct {
		g    *graph.Graph
		k    int
		much int64
	}{
		{cliques(2, 5), 2, 2}, {cliques(4, 6), 2, 2}, {cliques(4, 6), 4, 4}, {cliques(8, 8), 2, 2}, {cliques(8, 8), 4, 4}, {cliques(8, 8), 8, 8}, {cliques(16, 4), 16, 16}, {cliques(40, 10), 40, 41},
		{grid(8, 8), 2, 8}, {grid(8, 8), 4, 16}, {grid(20, 5), 2, 5}, {grid(30, 30), 2, 31}, {grid(30, 30), 9, 145},
		{sample.Graph(sample.Ones(9), 0, 4, 3, 4, 8, 3, 1, 3, 3, 3, 5, 3, 2, 6, 3, 6, 7, 3), 3, 0},
		{sample.Graph(sample.Ones(4), 2, 3, 9, 0, 1, 1), 3, 1}, {sample.Graph(sample.Ones(3), 0, 2, 9, 1, 2, 8), 2, 8},
	} {
		part := split(t, c.g, c.k)
		if now := cut.Cut(c.g, part, c.k); now > c.much {
			t.Errorf("case %d: %v: %d; it may be %d", i, part, now, c.much)
		}
	}
}

// leastCut is the least cut of all parts that fit, tried one by one.
func leastCut(g *graph.Graph, k int, all [][]int) int64 {
	least := int64(math.MaxInt64)
	for _, part := range all {
		if plainFits(g, part, k) {
			least = min(least, cut.Cut(g, part, k))
		}
	}
	return least
}

// P14.1: a better cut is sought: of little graphs, two parts cut least, and more parts hardly more than that.
func TestSplitCutsLeast(t *testing.T) {
	for _, c := range []struct {
		n, k   int
		within int64 // hundredths
	}{{6, 2, 100}, {8, 2, 100}, {6, 3, 102}, {7, 3, 101}, {6, 5, 100}, {3, 5, 100}, {4, 6, 100}, {5, 6, 101}} {
		s := sample.Numbers(c.n*10 + c.k)
		all := sample.Lists(c.n, 0, c.k-1)
		found, least := int64(0), int64(0)
		for round := range 30 {
			weights := make([]int64, c.n)
			for i := range weights {
				weights[i] = int64(s.Next(1+round%5) + 1)
			}
			g := sample.Graph(weights)
			for range c.n * (1 + round%3) {
				g.Join(s.Next(c.n), s.Next(c.n), int64(s.Next(10)+1))
			}
			found += cut.Cut(g, split(t, g, c.k), c.k)
			least += leastCut(g, c.k, all)
		}
		if found*100 > least*c.within {
			t.Errorf("%d into %d: %d; least %d", c.n, c.k, found, least)
		}
	}
}

// P14.1: a better cut is sought: no parts cut more than mended ones that nobody sought.
func TestSplitCutsNoMore(t *testing.T) {
	for _, g := range graphs(40, 40) {
		for k := 2; k < g.Len()+2; k += 3 {
			part := split(t, g, k)
			whole, rows := make([]int, g.Len()), make([]int, g.Len())
			for i := range rows {
				rows[i] = i * k / g.Len()
			}
			for _, other := range [][]int{whole, rows} {
				mended, e := parts.Mend(g, other, k)
				if e != api.OK || cut.Cut(g, part, k) > cut.Cut(g, mended, k) {
					t.Errorf("%d into %d: %d; mended %d", g.Len(), k, cut.Cut(g, part, k), cut.Cut(g, mended, k))
				}
			}
		}
	}
}

// P5: the same is chosen again, whatever was split ahead, and however the same graph was joined.
func TestSplitAgain(t *testing.T) {
	g := cliques(5, 7)
	first := slices.Clone(split(t, g, 6))
	other := sample.Graph(sample.Ones(35))
	edges := slices.Collect(g.Edges())
	for _, e := range slices.Backward(edges) {
		for range e.W {
			other.Join(e.B, e.A, 1)
		}
	}
	split(t, other, 3)
	again := split(t, other, 6)
	if !slices.Equal(again, first) {
		t.Errorf("%v; then %v", first, again)
	}
	clear(again[:cap(again)])
	if again = split(t, g, 6); !slices.Equal(again, first) {
		t.Errorf("%v; written over %v", first, again)
	}
}

// mended holds that right parts are mended as they must be.
func mended(t *testing.T, g *graph.Graph, part []int, k int) []int {
	t.Helper()
	was := slices.Clone(part)
	behind, e := parts.Mend(g, part, k)
	if e != api.OK || !plainFits(g, behind, k) || !slices.Equal(part, was) {
		t.Fatalf("%v of %d: %v, %d; now %v", was, k, behind, e, part)
	}
	if plainFits(g, was, k) && !slices.Equal(behind, was) {
		t.Fatalf("%v of %d fits: %v", was, k, behind)
	}
	again, e := parts.Mend(g, part, k)
	if e != api.OK || !slices.Equal(again, behind) {
		t.Fatalf("%v of %d: %v, then %v", was, k, behind, again)
	}
	return behind
}

// P14.1, P14.2: all right parts of graphs of up to five things, of like and unlike weights.
func TestMendEveryList(t *testing.T) {
	for n := range 6 {
		for _, weights := range [][]int64{{1, 1, 1, 1, 1}, {2, 1, 3, 1, 2}, {1, 9, 1, 1, 1}, {1, 1, 1, 5, 9}, {most, 1, most - 1, 5, most}} {
			g := sample.Graph(weights[:n])
			for i := range n {
				g.Join(i, (i+1)%n, int64(i*i+1))
			}
			for k := 1; k < 7; k++ {
				for _, part := range sample.Lists(n, 0, min(k-1, 3)) {
					mended(t, g, part, k)
				}
			}
		}
	}
}

// P14.1, P14.2: parts of greater graphs, made by a short rule, into few and many.
func TestMendMany(t *testing.T) {
	s := sample.Numbers(5)
	for _, g := range graphs(60, 40) {
		for _, k := range []int{1, 2, 3, 7, 20, 59, 60, 61, manyest} {
			part := make([]int, g.Len())
			for _, among := range []int{1, 2, k} {
				for i := range part {
					part[i] = s.Next(min(among, k))
				}
				mended(t, g, part, k)
				for i := range part {
					part[i] = k - 1 - part[i]
				}
				mended(t, g, part, k)
			}
		}
	}
}

// P14.1: no more is moved than must be: of parts that are too heavy what hangs on them least, to where it has most, and to empty ones what has least with its own.
func TestMend(t *testing.T) {
	row := sample.Graph(sample.Ones(6), 0, 1, 5, 1, 2, 5, 2, 3, 1, 3, 4, 5, 4, 5, 4)
	heavy := sample.Graph([]int64{5, 1, 1, 3}, 0, 1, 2, 1, 2, 3, 2, 3, 1)
	for i, c := range []struct {
		g      *graph.Graph
		part   []int
		k      int
		behind []int
	}{
		{row, []int{0, 0, 0, 0, 0, 0}, 1, []int{0, 0, 0, 0, 0, 0}},
		{row, []int{0, 0, 0, 0, 1, 1}, 2, []int{0, 0, 0, 0, 1, 1}},
		{row, []int{0, 0, 0, 0, 0, 1}, 2, []int{0, 0, 0, 0, 1, 1}},
		{row, []int{1, 1, 1, 1, 1, 0}, 2, []int{1, 1, 1, 1, 0, 0}},
		{row, []int{0, 0, 0, 0, 0, 0}, 2, []int{0, 0, 0, 0, 1, 1}},
		{row, []int{0, 0, 0, 2, 2, 2}, 3, []int{0, 0, 0, 2, 2, 1}},
		{row, []int{0, 0, 0, 0, 1, 2}, 3, []int{0, 0, 0, 1, 1, 2}},
		{row, []int{0, 0, 0, 0, 2, 1}, 3, []int{0, 0, 0, 2, 2, 1}},
		{heavy, []int{0, 0, 0, 0}, 2, []int{0, 0, 0, 1}},
		{sample.Graph(sample.Ones(5)), []int{0, 0, 0, 0, 1}, 3, []int{2, 0, 0, 0, 1}},
		{sample.Graph(sample.Ones(8)), []int{0, 0, 0, 0, 1, 1, 2, 3}, 4, []int{2, 0, 0, 0, 1, 1, 2, 3}},
		{sample.Graph(sample.Ones(6), 0, 1, 4, 1, 2, 4, 0, 2, 4, 3, 4, 7, 3, 5, 5), []int{0, 0, 0, 0, 1, 1}, 3, []int{0, 0, 0, 1, 1, 2}},
		{sample.Graph(sample.Ones(6), 0, 1, 3, 1, 2, 3, 0, 2, 3, 2, 3, 3, 3, 4, 4, 4, 5, 9), []int{0, 0, 0, 0, 1, 1}, 3, []int{0, 0, 0, 2, 1, 1}},
	} {
		if behind := mended(t, c.g, c.part, c.k); !slices.Equal(behind, c.behind) {
			t.Errorf("case %d: %v; want %v", i, behind, c.behind)
		}
	}
}

// P14.1: parts of which some are empty stay as they are, if there are fewer things than parts, but not if there are as many.
func TestMendEmpty(t *testing.T) {
	g := sample.Graph([]int64{5, 1, 2})
	for _, part := range sample.Lists(3, 0, 2) {
		three, four := mended(t, g, part, 3), mended(t, g, part, 4)
		if len(slices.Collect(cut.Empty(three, 3))) > 0 {
			t.Errorf("%v: %v", part, three)
		}
		if cut.Fits(g, part, 4) && !slices.Equal(four, part) {
			t.Errorf("%v: %v", part, four)
		}
	}
}

// P14.1: parts that aren't right, numbers of parts that can't be.
func TestMendWrong(t *testing.T) {
	g := sample.Graph(sample.Ones(3), 0, 1, 5)
	wrong := func(part []int, k int) {
		if behind, e := parts.Mend(g, part, k); len(behind) != 0 || e != api.ErrArg {
			t.Errorf("%v of %d: %v, %d", part, k, behind, e)
		}
	}
	for n := range 6 {
		for _, part := range sample.Lists(n, -1, 3) {
			for k := -1; k < 4; k++ {
				if !cut.Right(g, part, k) {
					wrong(part, k)
				}
			}
		}
	}
	for _, k := range []int{0, -1, 4097, 1 << 32, 1<<32 + 2, math.MaxInt, math.MinInt} {
		wrong([]int{0, 0, 0}, k)
	}
	for _, p := range sample.Strangers(manyest) {
		wrong([]int{0, 0, p}, manyest)
		wrong([]int{p, 0, 0}, manyest)
	}
}

// P2: neither the parts, nor the memory behind them, nor the graph are turned, and what is answered is new memory, also where nothing is moved.
func TestMendIsNew(t *testing.T) {
	g := sample.Graph(sample.Ones(3), 0, 1, 5)
	edges := slices.Collect(g.Edges())
	for _, first := range []int{0, 1} {
		memory := []int{first, 0, 0, 7, 7}
		behind, e := parts.Mend(g, memory[:3], 2)
		if e != api.OK || !slices.Equal(slices.Collect(g.Edges()), edges) {
			t.Errorf("%d: %v", e, slices.Collect(g.Edges()))
		}
		clear(behind[:cap(behind)])
		if !slices.Equal(memory, []int{first, 0, 0, 7, 7}) {
			t.Errorf("turned: %v", memory)
		}
	}
}

// P14.1, P14.2: as many things and parts as there may be, all at first in one part, or as heavy as may be.
func TestMendGreatest(t *testing.T) {
	row := sample.Graph(slices.Repeat([]int64{most}, manyest))
	for i := range manyest - 1 {
		row.Join(i, i+1, most)
	}
	for _, k := range []int{1, 2, 4095, 4096} {
		for _, p := range []int{0, k - 1} {
			part := slices.Repeat([]int{p}, manyest)
			if behind, e := parts.Mend(row, part, k); e != api.OK || !plainFits(row, behind, k) {
				t.Errorf("%d, %d: %d", k, p, e)
			}
		}
	}
}

// group is a part, and its things.
type group struct {
	p      int
	things []int
}

func (g group) is(other group) bool {
	return g.p == other.p && slices.Equal(g.things, other.things)
}

// plainGroups is what Groups must go through, but no more than n.
func plainGroups(part []int, k, n int) []group {
	var all []group
	for p := 0; p < k && len(all) < n; p++ {
		one := group{p: p}
		for i := range part {
			if part[i] == p {
				one.things = append(one.things, i)
			}
		}
		all = append(all, one)
	}
	return all
}

// firsts is as many groups as are asked for.
func firsts(part []int, k, n int) []group {
	var all []group
	parts.Groups(part, k)(func(p int, things []int) bool {
		all = append(all, group{p, things})
		return len(all) < n
	})
	return all
}

// P14.1: all lists of up to five parts, right ones and wrong ones, of all numbers of parts, stopped at any place.
func TestGroupsEveryList(t *testing.T) {
	for n := range 6 {
		for _, part := range sample.Lists(n, -1, 2) {
			for _, k := range append(sample.Strangers(4), 0, 1, 2, 3) {
				for stop := 1; stop < 5; stop++ {
					if got, want := firsts(part, k, stop), plainGroups(part, k, stop); !slices.EqualFunc(got, want, group.is) {
						t.Fatalf("%v of %d: %v; want %v", part, k, got, want)
					}
				}
			}
		}
	}
}

// P14.1: more things, and parts, than a graph may have, and parts however far off.
func TestGroupsFar(t *testing.T) {
	const n = 300000
	part := make([]int, n)
	for i := range part {
		part[i] = n - 1 - i
	}
	next := 0
	for p, things := range parts.Groups(part, n) {
		if p != next || len(things) != 1 || things[0] != n-1-p {
			t.Fatalf("%d: %d, %v", next, p, things)
		}
		next++
	}
	if next != n {
		t.Errorf("%d", next)
	}
	for _, p := range sample.Strangers(2) {
		if got := firsts([]int{p, 1, p, 0}, 2, 9); !slices.EqualFunc(got, []group{{0, []int{3}}, {1, []int{1}}}, group.is) {
			t.Errorf("%d: %v", p, got)
		}
	}
}

// P2: groups are of what was handed in, again and again, whatever is written over it, or into what was answered; they share no memory.
func TestGroupsAsTheyWere(t *testing.T) {
	memory := []int{1, 0, 1, 2, 1, 8, 8}
	want := plainGroups(memory[:5], 4, 9)
	seq := parts.Groups(memory[:5], 4)
	if !slices.Equal(memory, []int{1, 0, 1, 2, 1, 8, 8}) {
		t.Errorf("turned: %v", memory)
	}
	clear(memory)
	for range 3 {
		var got, lists []group
		for p, things := range seq {
			got = append(got, group{p, slices.Clone(things)})
			lists = append(lists, group{p, things})
			memory[p] = 9 - memory[p]
		}
		if !slices.EqualFunc(got, want, group.is) {
			t.Errorf("%v; want %v", got, want)
		}
		for at, one := range lists {
			for i := range one.things[:cap(one.things)] {
				one.things[:cap(one.things)][i] = 100
			}
			for _, later := range lists[at+1:] {
				if slices.Contains(later.things, 100) {
					t.Errorf("%d shares with %d", at, later.p)
				}
			}
		}
	}
}

// The chapter's example.
func TestExample(t *testing.T) {
	g := sample.Graph(sample.Ones(4), 0, 2, 9, 1, 3, 9, 0, 1, 1)
	part, e := parts.Split(g, 2)
	if e != api.OK || part[0] != part[2] || part[1] != part[3] || part[0] == part[1] {
		t.Error(part, e)
	}
}
