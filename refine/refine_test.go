package refine_test

import (
	"iter"
	"math"
	"slices"
	"testing"

	"sandtable/cut"
	"sandtable/graph"
	"sandtable/refine"
	"sandtable/sample"
)

const (
	most    = 1 << 40 // a weight, and what is between two
	manyest = 4096    // things
)

// move is a thing that is moved, and what that gains.
type move struct {
	i    int
	gain int64
}

// other is parts with one thing in the other part.
func other(part []int, i int) []int {
	turned := slices.Clone(part)
	turned[i] = 1 - turned[i]
	return turned
}

// plainMay tells whether a thing's move makes the other part no heavier than its bound.
func plainMay(g *graph.Graph, part []int, bounds [2]int64, i int) bool {
	heavy := int64(0)
	turned := other(part, i)
	for j, p := range turned {
		if p == turned[i] {
			heavy += g.Weight(j)
		}
	}
	return heavy <= bounds[turned[i]]
}

// plainMoves is what Moves must go through: every cut is asked anew for each move, from the last thing down.
func plainMoves(g *graph.Graph, part []int, bounds [2]int64) []move {
	part = slices.Clone(part)
	moved := make([]bool, len(part))
	var moves []move
	for {
		best := move{i: -1}
		for i := len(part) - 1; i >= 0; i-- {
			if moved[i] || !plainMay(g, part, bounds, i) {
				continue
			}
			gain := cut.Cut(g, part, 2) - cut.Cut(g, other(part, i), 2)
			if best.i < 0 || gain >= best.gain {
				best = move{i, gain}
			}
		}
		if best.i < 0 {
			return moves
		}
		moves = append(moves, best)
		moved[best.i] = true
		part[best.i] = 1 - part[best.i]
	}
}

// plainPass is what Pass must answer: of all parts on the way the first that cut least.
func plainPass(g *graph.Graph, part []int, bounds [2]int64) ([]int, int64) {
	best := slices.Clone(part)
	now := slices.Clone(part)
	for _, m := range plainMoves(g, part, bounds) {
		now = other(now, m.i)
		if cut.Cut(g, now, 2) < cut.Cut(g, best, 2) {
			best = now
		}
	}
	return best, cut.Cut(g, part, 2) - cut.Cut(g, best, 2)
}

func collect(seq iter.Seq2[int, int64]) []move {
	var moves []move
	for i, gain := range seq {
		moves = append(moves, move{i, gain})
	}
	return moves
}

// refined holds that right parts are refined as they must be, and as P13.2 says.
func refined(t *testing.T, g *graph.Graph, part []int, bounds [2]int64) {
	t.Helper()
	if got, want := collect(refine.Moves(g, part, bounds)), plainMoves(g, part, bounds); !slices.Equal(got, want) {
		t.Fatalf("%v, %v: moves %v; want %v; edges %v", part, bounds, got, want, slices.Collect(g.Edges()))
	}
	behind, gain := refine.Pass(g, part, bounds)
	want, wantGain := plainPass(g, part, bounds)
	if !slices.Equal(behind, want) || gain != wantGain {
		t.Fatalf("%v, %v: %v, %d; want %v, %d; edges %v", part, bounds, behind, gain, want, wantGain, slices.Collect(g.Edges()))
	}
	held(t, g, part, behind, bounds)
	for wantGain > 0 {
		want, wantGain = plainPass(g, want, bounds)
	}
	all := refine.Refine(g, part, bounds)
	if !slices.Equal(all, want) {
		t.Fatalf("%v, %v: refined %v; want %v; edges %v", part, bounds, all, want, slices.Collect(g.Edges()))
	}
	held(t, g, part, all, bounds)
	if again, gain := refine.Pass(g, all, bounds); gain != 0 || !slices.Equal(again, all) {
		t.Fatalf("%v, %v: refined %v, again %v, %d", part, bounds, all, again, gain)
	}
}

// held holds that parts behind passes cut no more, and that each that fits its bound still does.
func held(t *testing.T, g *graph.Graph, part, behind []int, bounds [2]int64) {
	t.Helper()
	if cut.Cut(g, behind, 2) > cut.Cut(g, part, 2) {
		t.Fatalf("%v, %v: %v cuts more", part, bounds, behind)
	}
	was, now := cut.Weights(g, part, 2), cut.Weights(g, behind, 2)
	for p, bound := range bounds {
		if was[p] <= bound && now[p] > bound {
			t.Fatalf("%v, %v: %v doesn't fit any more", part, bounds, behind)
		}
	}
}

// near is bounds near the half and the whole of a weight, for both parts.
func near(total int64) [][2]int64 {
	half := total / 2
	return [][2]int64{{half, half + 1}, {half + 1, half}, {half + 1, half + 1}, {half - 1, total}, {total, half - 1}, {total, total - 1}, {0, total}, {1, half + 1}}
}

// P13.1, P13.2: all graphs of up to three things with 0, 1, 2 or the most there may be between them, all parts of them, all bounds about.
func TestEveryGraph(t *testing.T) {
	for n := range 4 {
		for _, which := range sample.Chosen(n*(n-1)/2, 0, 1, 2, most) {
			for _, weights := range [][]int64{{1, 1, 1}, {2, 1, 3}} {
				g := sample.Between(weights[:n], which)
				for _, part := range sample.Lists(n, 0, 1) {
					for a := int64(-1); a <= g.Total()+1; a++ {
						for b := int64(-1); b <= g.Total()+1; b++ {
							refined(t, g, part, [2]int64{a, b})
						}
					}
				}
			}
		}
	}
}

// P13.1, P13.2: all graphs of four things with 0, 1 or 3 between them, all parts of them.
func TestEveryGraphOfFour(t *testing.T) {
	for round, which := range sample.Chosen(6, 0, 1, 3) {
		g := sample.Between([][]int64{{1, 1, 1, 1}, {2, 1, 3, 1}}[round%2], which)
		for _, part := range sample.Lists(4, 0, 1) {
			for _, bounds := range near(g.Total()) {
				refined(t, g, part, bounds)
			}
		}
	}
}

// P13.1, P13.2: greater graphs, made by a short rule: with few unlike numbers, so that several gain most, and with many.
func TestMany(t *testing.T) {
	s := sample.Numbers(7)
	for _, n := range []int{5, 9, 17} {
		for round := range 20 {
			weights := make([]int64, n)
			part := make([]int, n)
			for i := range weights {
				weights[i] = int64(s.Next(1+round) + 1)
				part[i] = s.Next(2)
			}
			g := sample.Graph(weights)
			for range n * round / 4 {
				g.Join(s.Next(n), s.Next(n), int64(s.Next(2+round*round*round)+1))
			}
			for _, bounds := range near(g.Total()) {
				refined(t, g, part, bounds)
			}
		}
	}
}

// P13.1: what decides: most gain, then the first one, of those that weren't moved, and that the other part has room for.
func TestMoves(t *testing.T) {
	row := sample.Graph(sample.Ones(4), 0, 1, 5, 1, 2, 3, 2, 3, 5)
	for i, c := range []struct {
		g      *graph.Graph
		part   []int
		bounds [2]int64
		moves  []move
	}{
		{sample.Graph(nil), nil, [2]int64{5, 5}, nil},
		{sample.Graph(sample.Ones(1)), []int{0}, [2]int64{0, 1}, []move{{0, 0}}},
		{sample.Graph(sample.Ones(1)), []int{0}, [2]int64{1, 0}, nil},
		{sample.Graph(sample.Ones(1)), []int{1}, [2]int64{1, 0}, []move{{0, 0}}},
		{sample.Graph(sample.Ones(3)), []int{1, 0, 1}, [2]int64{3, 3}, []move{{0, 0}, {1, 0}, {2, 0}}},
		{sample.Graph(sample.Ones(3)), []int{1, 0, 1}, [2]int64{1, 3}, []move{{1, 0}, {0, 0}}},
		{row, []int{0, 1, 0, 1}, [2]int64{2, 2}, nil},
		{row, []int{0, 1, 0, 1}, [2]int64{3, 2}, []move{{1, 8}, {2, 2}, {3, -5}, {0, -5}}},
		{row, []int{0, 1, 0, 1}, [2]int64{2, 3}, []move{{2, 8}, {1, 2}, {0, -5}, {3, -5}}},
		{row, []int{0, 1, 0, 1}, [2]int64{4, 4}, []move{{1, 8}, {3, 5}, {0, -5}, {2, -8}}},
		{row, []int{0, 0, 1, 1}, [2]int64{3, 3}, []move{{1, -2}, {3, -5}, {0, 5}, {2, 2}}},
		{sample.Graph([]int64{1, 1, 9}, 0, 1, 2, 1, 2, 7), []int{0, 0, 1}, [2]int64{9, 10}, []move{{1, 5}}},
	} {
		if got := collect(refine.Moves(c.g, c.part, c.bounds)); !slices.Equal(got, c.moves) {
			t.Errorf("case %d: %v; want %v", i, got, c.moves)
		}
		refined(t, c.g, c.part, c.bounds)
	}
}

// P13.1: of several places where the cut is least the first; none, if it never falls; behind a rise too.
func TestPass(t *testing.T) {
	for i, c := range []struct {
		g      *graph.Graph
		part   []int
		bounds [2]int64
		behind []int
		gain   int64
	}{
		{sample.Graph(sample.Ones(2)), []int{0, 1}, [2]int64{9, 9}, []int{0, 1}, 0},
		{sample.Graph(sample.Ones(2), 0, 1, 3), []int{0, 1}, [2]int64{2, 2}, []int{1, 1}, 3},
		{sample.Graph(sample.Ones(2), 0, 1, 3), []int{1, 0}, [2]int64{2, 2}, []int{0, 0}, 3},
		{sample.Graph(sample.Ones(2), 0, 1, 3), []int{1, 1}, [2]int64{2, 2}, []int{1, 1}, 0},
		{sample.Graph(sample.Ones(3), 0, 1, 3), []int{0, 1, 0}, [2]int64{3, 3}, []int{1, 1, 0}, 3},
		{sample.Graph(sample.Ones(4), 0, 2, 5, 1, 3, 5, 0, 1, 1), []int{0, 0, 1, 1}, [2]int64{3, 3}, []int{0, 1, 0, 1}, 9},
		{sample.Graph(sample.Ones(4), 0, 1, 4, 2, 3, 4, 0, 2, 5, 1, 3, 5), []int{0, 0, 1, 1}, [2]int64{3, 3}, []int{1, 0, 1, 0}, 2},
	} {
		if behind, gain := refine.Pass(c.g, c.part, c.bounds); !slices.Equal(behind, c.behind) || gain != c.gain {
			t.Errorf("case %d: %v, %d; want %v, %d", i, behind, gain, c.behind, c.gain)
		}
		refined(t, c.g, c.part, c.bounds)
	}
}

// P13.1: several passes are gone, where one doesn't do.
func TestRefine(t *testing.T) {
	s := sample.Numbers(11)
	several := 0
	for range 200 {
		g := sample.Graph(sample.Ones(12))
		part := make([]int, 12)
		for i := range part {
			part[i] = s.Next(2)
			g.Join(i, s.Next(12), int64(s.Next(9)+1))
			g.Join(i, s.Next(12), int64(s.Next(9)+1))
		}
		bounds := [2]int64{8, 8}
		once, _ := refine.Pass(g, part, bounds)
		if all := refine.Refine(g, part, bounds); cut.Cut(g, all, 2) < cut.Cut(g, once, 2) {
			several++
		}
		refined(t, g, part, bounds)
	}
	if several == 0 {
		t.Error("one pass always did")
	}
}

// P13.1: bounds of every size, also of nothing, and below: none goes round.
func TestBounds(t *testing.T) {
	g := sample.Graph([]int64{most, 1, most - 1, most}, 0, 3, most, 1, 3, 5, 0, 2, 7)
	sizes := []int64{math.MinInt64, math.MinInt64 + 1, -most, -1, 0, 1, most - 1, most, most + 1, 2*most - 1, 2 * most, 3 * most, 4 * most, math.MaxInt64 - 1, math.MaxInt64}
	for _, part := range sample.Lists(4, 0, 1) {
		for _, a := range sizes {
			for _, b := range sizes {
				refined(t, g, part, [2]int64{a, b})
			}
		}
		for _, bounds := range [][2]int64{{}, {0, -1}, {math.MinInt64, 0}, {math.MinInt64, math.MinInt64}} {
			if moves := collect(refine.Moves(g, part, bounds)); len(moves) != 0 {
				t.Errorf("%v, %v: %v", part, bounds, moves)
			}
		}
	}
}

// asTheyAre holds that parts that aren't right stay as they are, in new memory.
func asTheyAre(t *testing.T, g *graph.Graph, part []int) {
	t.Helper()
	bounds := [2]int64{math.MaxInt64, math.MaxInt64}
	if moves := collect(refine.Moves(g, part, bounds)); len(moves) != 0 {
		t.Errorf("%v: moves %v", part, moves)
	}
	was := slices.Clone(part)
	behind, gain := refine.Pass(g, part, bounds)
	all := refine.Refine(g, part, bounds)
	if !slices.Equal(behind, was) || gain != 0 || !slices.Equal(all, was) {
		t.Errorf("%v: %v, %d, %v", was, behind, gain, all)
	}
	clear(behind)
	clear(all)
	if !slices.Equal(part, was) {
		t.Errorf("%v: now %v", was, part)
	}
}

// P13.1: parts that aren't right: too few, too many, one that is neither 0 nor 1, at any place.
func TestWrongParts(t *testing.T) {
	g := sample.Graph(sample.Ones(3), 0, 1, 3, 1, 2, 5)
	for n := range 6 {
		for _, part := range sample.Lists(n, -1, 2) {
			if !cut.Right(g, part, 2) {
				asTheyAre(t, g, part)
			}
		}
	}
	for _, p := range sample.Strangers(2) {
		for at := range 3 {
			part := []int{0, 1, 0}
			part[at] = p
			asTheyAre(t, g, part)
		}
	}
	asTheyAre(t, g, make([]int, 100000))
}

// P1: of a graph that was never made no parts are right; a zero graph has no things.
func TestNoGraph(t *testing.T) {
	for _, part := range [][]int{nil, {}, {0}, {0, 1}} {
		asTheyAre(t, nil, part)
		asTheyAre(t, new(graph.Graph), part)
	}
}

// P2: neither the parts, nor the memory behind them, nor the graph are turned, and what is answered is new memory.
func TestNotTurned(t *testing.T) {
	g := sample.Graph(sample.Ones(4), 0, 2, 5, 1, 3, 5, 0, 1, 1)
	edges := slices.Collect(g.Edges())
	for _, bounds := range [][2]int64{{3, 3}, {2, 2}, {}} {
		memory := []int{0, 0, 1, 1, 7, 7}
		behind, gain := refine.Pass(g, memory[:4], bounds)
		all := refine.Refine(g, memory[:4], bounds)
		collect(refine.Moves(g, memory[:4], bounds))
		if !slices.Equal(memory, []int{0, 0, 1, 1, 7, 7}) || !slices.Equal(slices.Collect(g.Edges()), edges) {
			t.Fatalf("%v: turned: %v", bounds, memory)
		}
		clear(behind[:cap(behind)])
		clear(all[:cap(all)])
		if !slices.Equal(memory, []int{0, 0, 1, 1, 7, 7}) {
			t.Fatalf("%v: shared: %v", bounds, memory)
		}
		if again, same := refine.Pass(g, memory[:4], bounds); same != gain || !slices.Equal(again, map[bool][]int{true: {0, 1, 0, 1}, false: {0, 0, 1, 1}}[gain > 0]) {
			t.Errorf("%v: %v, %d", bounds, again, same)
		}
	}
}

// P13.1: moves are stopped at any place, and asked no more.
func TestMovesStopped(t *testing.T) {
	g := sample.Graph(sample.Ones(5), 0, 2, 5, 1, 3, 5, 0, 1, 1, 3, 4, 2)
	part, bounds := []int{0, 0, 1, 1, 0}, [2]int64{4, 3}
	want := plainMoves(g, part, bounds)
	seq := refine.Moves(g, part, bounds)
	for stop := 1; stop < 7; stop++ {
		var got []move
		seq(func(i int, gain int64) bool {
			got = append(got, move{i, gain})
			return len(got) < stop
		})
		if !slices.Equal(got, want[:min(stop, len(want))]) {
			t.Errorf("stopped at %d: %v; want %v", stop, got, want)
		}
	}
}

// P2: moves are those of the call, again and again, whatever the caller joins or writes over, behind it or on the way.
func TestMovesAsTheyWere(t *testing.T) {
	g := sample.Graph(sample.Ones(4), 0, 2, 5, 1, 3, 5, 0, 1, 1)
	part, bounds := []int{0, 0, 1, 1}, [2]int64{3, 3}
	want := plainMoves(g, part, bounds)
	seq := refine.Moves(g, part, bounds)
	g.Join(0, 1, most/2)
	clear(part)
	for range 3 {
		var got []move
		for i, gain := range seq {
			got = append(got, move{i, gain})
			g.Join(2, 3, 100)
			part[i] = 9
		}
		if !slices.Equal(got, want) {
			t.Errorf("%v; want %v", got, want)
		}
	}
}

// P2: a pass within another one of the same moves doesn't turn it.
func TestMovesWithin(t *testing.T) {
	g := sample.Graph(sample.Ones(4), 0, 2, 5, 1, 3, 5, 0, 1, 1)
	part, bounds := []int{0, 0, 1, 1}, [2]int64{3, 3}
	want := plainMoves(g, part, bounds)
	seq := refine.Moves(g, part, bounds)
	var outer []move
	for i, gain := range seq {
		outer = append(outer, move{i, gain})
		if inner := collect(seq); !slices.Equal(inner, want) {
			t.Errorf("%v; want %v", inner, want)
		}
	}
	if !slices.Equal(outer, want) {
		t.Errorf("%v; want %v", outer, want)
	}
}

// P13.1, P13.2: as many things as there may be, with as much between them as may be: in a row, and around one.
func TestGreatest(t *testing.T) {
	row, around := sample.Graph(slices.Repeat([]int64{most}, manyest)), sample.Graph(sample.Ones(manyest))
	turns, blocks, alone := make([]int, manyest), make([]int, manyest), slices.Repeat([]int{1}, manyest)
	for i := range manyest - 1 {
		row.Join(i, i+1, most)
		around.Join(i, manyest-1, most)
		turns[i+1] = (i + 1) % 2
		blocks[i+1] = (i + 1) / 16 % 2
	}
	all := row.Total()
	behind, gain := refine.Pass(row, turns, [2]int64{all, all})
	if was, now := cut.Cut(row, turns, 2), cut.Cut(row, behind, 2); was != (manyest-1)*most || now != 0 || gain != was {
		t.Errorf("turns: from %d to %d, gain %d", was, now, gain)
	}
	half := all/2 + most
	behind = refine.Refine(row, blocks, [2]int64{half, half})
	if w, now := cut.Weights(row, behind, 2), cut.Cut(row, behind, 2); max(w[0], w[1]) > half || now > cut.Cut(row, blocks, 2)/2 {
		t.Errorf("blocks: %v, cut %d", w, now)
	}
	alone[manyest-1] = 0
	behind, gain = refine.Pass(around, alone, [2]int64{1, manyest})
	if gain != (manyest-1)*most || slices.Contains(behind, 0) {
		t.Errorf("around: %d", gain)
	}
}

// The chapter's example.
func TestExample(t *testing.T) {
	g := sample.Graph(sample.Ones(2), 0, 1, 3)
	if behind, gain := refine.Pass(g, []int{0, 1}, [2]int64{2, 2}); !slices.Equal(behind, []int{1, 1}) || gain != 3 {
		t.Error(behind, gain)
	}
}
