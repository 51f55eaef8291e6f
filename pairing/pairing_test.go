package pairing_test

import (
	"iter"
	"math"
	"slices"
	"testing"

	"sandtable/graph"
	"sandtable/pairing"
	"sandtable/sample"
)

const (
	most    = 1 << 40 // a weight, and what is between two
	manyest = 4096    // things
)

// plainHeavy is what Heavy must answer: by a table of who is left, from the last one down.
func plainHeavy(g *graph.Graph) []int {
	mate := make([]int, g.Len())
	for i := range mate {
		mate[i] = -1
	}
	for i := range mate {
		if mate[i] >= 0 {
			continue
		}
		best := i
		for b := len(mate) - 1; b >= 0; b-- {
			if b != i && mate[b] < 0 && g.Between(i, b) > 0 && g.Between(i, b) >= g.Between(i, best) {
				best = b
			}
		}
		mate[i], mate[best] = best, i
	}
	return mate
}

// heavy holds that a graph's things are paired as they must be, and as P10.2 says.
func heavy(t *testing.T, g *graph.Graph) {
	t.Helper()
	mate := pairing.Heavy(g)
	if !slices.Equal(mate, plainHeavy(g)) || !pairing.Right(mate) {
		t.Fatalf("%v; want %v; edges %v", mate, plainHeavy(g), slices.Collect(g.Edges()))
	}
	for e := range g.Edges() {
		if mate[e.A] == e.A && mate[e.B] == e.B {
			t.Fatalf("%v: %d and %d are left alone", mate, e.A, e.B)
		}
	}
	for a, b := range pairing.Pairs(mate) {
		if g.Between(a, b) == 0 {
			t.Fatalf("%v: nothing is between %d and %d", mate, a, b)
		}
	}
}

// P10.1, P10.2: all graphs of up to four things with 0, 1, 2 or the most there may be between them.
func TestEveryGraph(t *testing.T) {
	for n := range 5 {
		for _, which := range sample.Chosen(n*(n-1)/2, 0, 1, 2, most) {
			g := sample.Between(sample.Ones(n), which)
			heavy(t, g)
		}
	}
}

// P10.1, P10.2: greater graphs, made by a short rule: with few unlike numbers, so that several have most, and with many.
func TestMany(t *testing.T) {
	s := sample.Numbers(10)
	for _, n := range []int{5, 9, 24, 70} {
		for round := range 20 {
			g := sample.Graph(sample.Ones(n))
			for range n * round / 4 {
				g.Join(s.Next(n), s.Next(n), int64(s.Next(2+round*round*round)+1))
			}
			heavy(t, g)
		}
	}
}

// P10.1: what decides: the first thing chooses first, by most, then by the first one; one that is taken isn't chosen.
func TestHeavy(t *testing.T) {
	for i, c := range []struct {
		g    *graph.Graph
		mate []int
	}{
		{sample.Graph(sample.Ones(0)), nil},
		{sample.Graph(sample.Ones(1)), []int{0}},
		{sample.Graph(sample.Ones(3)), []int{0, 1, 2}},
		{sample.Graph(sample.Ones(2), 0, 1, 1), []int{1, 0}},
		{sample.Graph(sample.Ones(3), 1, 2, 1), []int{0, 2, 1}},
		{sample.Graph(sample.Ones(3), 0, 2, 1, 1, 2, most), []int{2, 1, 0}},
		{sample.Graph(sample.Ones(4), 0, 3, 5, 0, 2, 5, 0, 1, 4), []int{2, 1, 0, 3}},
		{sample.Graph(sample.Ones(4), 0, 3, 6, 0, 2, 5, 0, 1, 4, 1, 3, 9, 1, 2, 1), []int{3, 2, 1, 0}},
		{sample.Graph(sample.Ones(5), 0, 2, 1, 1, 2, 9, 1, 4, 2, 3, 4, 8), []int{2, 4, 0, 3, 1}},
		{sample.Graph(sample.Ones(4), 2, 3, most, 1, 2, most-1, 0, 1, 1), []int{1, 0, 3, 2}},
	} {
		if mate := pairing.Heavy(c.g); !slices.Equal(mate, c.mate) {
			t.Errorf("case %d: %v; want %v", i, mate, c.mate)
		}
	}
}

// P10.1: as many things as there may be, in a row, and around one.
func TestGreatest(t *testing.T) {
	row, around := sample.Graph(sample.Ones(manyest)), sample.Graph(sample.Ones(manyest))
	for i := range manyest - 1 {
		row.Join(i, i+1, most)
		around.Join(i, manyest-1, int64(i+1))
	}
	mate := pairing.Heavy(row)
	for i, with := range mate {
		if with != i^1 {
			t.Fatalf("row: %d goes with %d", i, with)
		}
	}
	if n := pairing.Count(mate); n != manyest/2 {
		t.Errorf("row: %d", n)
	}
	mate = pairing.Heavy(around)
	if mate[0] != manyest-1 || mate[manyest-1] != 0 || pairing.Count(mate) != manyest-1 {
		t.Errorf("around: %d, %d, %d", mate[0], mate[manyest-1], pairing.Count(mate))
	}
}

// P1: of a graph that was never made nothing is paired.
func TestNoGraph(t *testing.T) {
	var zero graph.Graph
	if len(pairing.Heavy(nil)) != 0 || len(pairing.Heavy(&zero)) != 0 {
		t.Error("nothing")
	}
}

// P2: the graph isn't turned, and what is answered is new memory.
func TestHeavyIsNew(t *testing.T) {
	g := sample.Graph(sample.Ones(3), 0, 1, 3, 1, 2, 5)
	first := pairing.Heavy(g)
	clear(first[:cap(first)])
	if mate := pairing.Heavy(g); !slices.Equal(mate, []int{1, 0, 2}) {
		t.Errorf("%v", mate)
	}
	if edges := slices.Collect(g.Edges()); !slices.Equal(edges, []graph.Edge{{A: 0, B: 1, W: 3}, {A: 1, B: 2, W: 5}}) {
		t.Errorf("%v", edges)
	}
}

// plainRight is what Right must tell.
func plainRight(mate []int) bool {
	for i := range mate {
		if mate[i] < 0 || mate[i] >= len(mate) {
			return false
		}
	}
	for i := range mate {
		if mate[mate[i]] != i {
			return false
		}
	}
	return true
}

// plainPairs is what Pairs must tell: any two of a right list that have each other, by the lesser one.
func plainPairs(mate []int) [][2]int {
	if !plainRight(mate) {
		return nil
	}
	var list [][2]int
	for a := range mate {
		for b := a + 1; b < len(mate); b++ {
			if mate[a] == b {
				list = append(list, [2]int{a, b})
			}
		}
	}
	return list
}

func collected(seq iter.Seq2[int, int]) [][2]int {
	var list [][2]int
	for a, b := range seq {
		list = append(list, [2]int{a, b})
	}
	return list
}

// same holds that each call answers of a list of mates as it must.
func same(t *testing.T, mate []int) {
	t.Helper()
	pairs, left := plainPairs(mate), 0
	if plainRight(mate) {
		left = len(mate) - len(pairs)
	}
	if pairing.Right(mate) != plainRight(mate) || pairing.Count(mate) != left || !slices.Equal(collected(pairing.Pairs(mate)), pairs) {
		t.Fatalf("%v: Right %v, Count %d, Pairs %v; want %v, %d, %v", mate, pairing.Right(mate), pairing.Count(mate), collected(pairing.Pairs(mate)), plainRight(mate), left, pairs)
	}
}

// P10.1: all lists of up to five numbers, with mates that aren't there on either side.
func TestEveryList(t *testing.T) {
	same(t, nil)
	for n := range 6 {
		for _, mate := range sample.Lists(n, -1, n) {
			same(t, mate)
		}
	}
}

// P10.1: mates that aren't there, however far off, wherever they stand in a list that was right.
func TestNoSuchMate(t *testing.T) {
	for at := range 6 {
		for _, with := range []int{-1, 6, 7, -6, 4096, 1 << 32, 1<<32 + 3, 1 << 62, math.MaxInt, math.MinInt} {
			mate := []int{3, 1, 4, 0, 2, 5}
			mate[at] = with
			if pairing.Right(mate) || pairing.Count(mate) != 0 || len(collected(pairing.Pairs(mate))) != 0 {
				t.Errorf("%v", mate)
			}
		}
	}
}

// P10.1: a long list, longer than a graph may be, and what one wrong mate at its end makes of it.
func TestLongList(t *testing.T) {
	const n = 100001
	mate := make([]int, n)
	for i := range mate {
		mate[i] = n - 1 - i
	}
	if !pairing.Right(mate) || pairing.Count(mate) != n/2+1 || len(collected(pairing.Pairs(mate))) != n/2 {
		t.Errorf("Count %d", pairing.Count(mate))
	}
	mate[n-1] = n - 1
	if pairing.Right(mate) || pairing.Count(mate) != 0 || len(collected(pairing.Pairs(mate))) != 0 {
		t.Error("wrong at its end")
	}
}

// P10.1: pairs are stopped at any place, and asked no more.
func TestPairsStopped(t *testing.T) {
	mate := []int{3, 1, 4, 0, 2, 7, 6, 5}
	want := plainPairs(mate)
	for stop := 1; stop < 6; stop++ {
		var got [][2]int
		pairing.Pairs(mate)(func(a, b int) bool {
			got = append(got, [2]int{a, b})
			return len(got) < stop
		})
		if !slices.Equal(got, want[:min(stop, len(want))]) {
			t.Errorf("stopped at %d: %v", stop, got)
		}
	}
}

// P2: what is gone through is what was handed in, again and again, whatever is written over it.
func TestPairsAsTheyWere(t *testing.T) {
	mate := []int{3, 1, 4, 0, 2}
	wrong := []int{1, 1}
	seq, none := pairing.Pairs(mate), pairing.Pairs(wrong)
	clear(mate)
	wrong[1] = 0
	for range 3 {
		var got [][2]int
		for a, b := range seq {
			got = append(got, [2]int{a, b})
			mate[b] = a
		}
		if !slices.Equal(got, [][2]int{{0, 3}, {2, 4}}) || len(collected(none)) != 0 {
			t.Errorf("%v, %v", got, collected(none))
		}
	}
}

// P2: the list that is handed in, and the memory behind it, aren't turned.
func TestMatesAreNotTurned(t *testing.T) {
	memory := []int{1, 0, 2, 8, 9}
	same(t, memory[:3])
	if !slices.Equal(memory, []int{1, 0, 2, 8, 9}) {
		t.Errorf("turned: %v", memory)
	}
}

// The chapter's example.
func TestExample(t *testing.T) {
	g := sample.Graph(sample.Ones(3), 0, 1, 3, 1, 2, 5)
	if mate := pairing.Heavy(g); !slices.Equal(mate, []int{1, 0, 2}) {
		t.Error(mate)
	}
}
