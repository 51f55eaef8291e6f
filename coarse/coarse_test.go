package coarse_test

import (
	"math"
	"slices"
	"testing"

	"sandtable/api"
	"sandtable/coarse"
	"sandtable/cut"
	"sandtable/graph"
	"sandtable/pairing"
	"sandtable/sample"
)

const (
	most    = 1 << 40 // a weight, and what is between two
	manyest = 4096    // things
)

// laid is all that can be asked of a graph, in plain lists.
type laid struct {
	weights []int64
	edges   []graph.Edge
}

func laidOf(g *graph.Graph) laid {
	var l laid
	for i := range g.Len() {
		l.weights = append(l.weights, g.Weight(i))
	}
	l.edges = slices.Collect(g.Edges())
	return l
}

func (l laid) is(other laid) bool {
	return slices.Equal(l.weights, other.weights) && slices.Equal(l.edges, other.edges)
}

// plainShrink is what Shrink must answer of a right list: by a table of who is in what, and of all that is between any two.
func plainShrink(g *graph.Graph, mate []int) (laid, []int, api.Errno) {
	var members [][]int
	in := make([]int, len(mate))
	for i := range mate {
		if mate[i] == i {
			members = append(members, []int{i})
		} else if i < mate[i] {
			members = append(members, []int{i, mate[i]})
		}
	}
	var l laid
	for one, list := range members {
		sum := int64(0)
		for _, i := range list {
			in[i] = one
			sum += g.Weight(i)
		}
		if sum > most {
			return laid{}, nil, api.ErrRange
		}
		l.weights = append(l.weights, sum)
	}
	for a := range members {
		for b := a + 1; b < len(members); b++ {
			sum := int64(0)
			for _, i := range members[a] {
				for _, j := range members[b] {
					sum += g.Between(j, i)
				}
			}
			if sum > most {
				return laid{}, nil, api.ErrRange
			}
			if sum > 0 {
				l.edges = append(l.edges, graph.Edge{A: a, B: b, W: sum})
			}
		}
	}
	return l, in, api.OK
}

// plainRight tells whether a list of mates is one of so many things.
func plainRight(mate []int, n int) bool {
	for i := range mate {
		if mate[i] < 0 || mate[i] >= n || len(mate) != n || mate[mate[i]] != i {
			return false
		}
	}
	return len(mate) == n
}

// shrunk holds that a graph is shrunk by a list of mates as it must be.
func shrunk(t *testing.T, g *graph.Graph, mate []int) {
	t.Helper()
	ahead, were := laidOf(g), slices.Clone(mate)
	small, in, e := coarse.Shrink(g, mate)
	if !laidOf(g).is(ahead) || !slices.Equal(mate, were) {
		t.Fatalf("%v: turned", were)
	}
	want, wantIn, wantE := laid{}, []int(nil), api.ErrArg
	if plainRight(mate, g.Len()) {
		want, wantIn, wantE = plainShrink(g, mate)
	}
	if e != wantE || !slices.Equal(in, wantIn) || (small == nil) != (e != api.OK) {
		t.Fatalf("%v by %v: %v, %d; want %v, %d", ahead, mate, in, e, wantIn, wantE)
	}
	if small != nil && !laidOf(small).is(want) {
		t.Fatalf("%v by %v: %v; want %v", ahead, mate, laidOf(small), want)
	}
}

// P11.1: all graphs of up to three things, and all lists of up to four mates, right and wrong ones.
func TestShrinkEveryList(t *testing.T) {
	for n := range 4 {
		for _, which := range sample.Chosen(n*(n-1)/2, 0, 1, most) {
			g := sample.Between([]int64{3, most - 3, 5}[:n], which)
			for many := range 5 {
				for _, mate := range sample.Lists(many, -1, n) {
					shrunk(t, g, mate)
				}
			}
		}
	}
}

// P11.1, P11.2: greater graphs, made by a short rule, by the pairs that layer 10 makes, and by others, with or without something between them.
func TestShrinkMany(t *testing.T) {
	s := sample.Numbers(11)
	for _, n := range []int{4, 5, 9, 24, 60} {
		for round := range 20 {
			weights := make([]int64, n)
			for i := range weights {
				weights[i] = int64(s.Next(1+round*round) + 1)
			}
			g := sample.Graph(weights)
			for range n * round / 4 {
				g.Join(s.Next(n), s.Next(n), int64(s.Next(1+round*round)+1))
			}
			other := make([]int, n)
			for i := range other {
				other[i] = i
			}
			for range round {
				if a, b := s.Next(n), s.Next(n); other[a] == a && other[b] == b {
					other[a], other[b] = b, a
				}
			}
			for _, mate := range [][]int{pairing.Heavy(g), other} {
				shrunk(t, g, mate)
				lifted(t, g, mate, func() int { return s.Next(3) })
			}
		}
	}
}

// lifted holds P11.2 of a graph that may be shrunk, and parts that are chosen for it.
func lifted(t *testing.T, g *graph.Graph, mate []int, choose func() int) {
	t.Helper()
	small, in, e := coarse.Shrink(g, mate)
	if e != api.OK || small.Total() != g.Total() {
		t.Fatalf("%v: %d, all weigh %d; want %d", mate, e, small.Total(), g.Total())
	}
	part := make([]int, small.Len())
	for i := range part {
		part[i] = choose()
	}
	all, e := coarse.Lift(part, in)
	if e != api.OK || !cut.Right(g, all, 3) || cut.Cut(g, all, 3) != cut.Cut(small, part, 3) {
		t.Fatalf("%v of %v: %v cuts %d; want %d", part, in, all, cut.Cut(g, all, 3), cut.Cut(small, part, 3))
	}
	if !slices.Equal(cut.Weights(g, all, 3), cut.Weights(small, part, 3)) {
		t.Fatalf("%v of %v: weights", part, in)
	}
}

// P11.2: all parts of a graph of pairs.
func TestLiftedCut(t *testing.T) {
	g := sample.Graph([]int64{1, 2, 3, 4, 5, 6}, 0, 1, 7, 0, 5, 1, 1, 2, 11, 2, 3, 13, 1, 4, 17, 4, 5, 19, 0, 3, 23)
	for _, mate := range [][]int{{0, 1, 2, 3, 4, 5}, {1, 0, 3, 2, 5, 4}, {5, 4, 3, 2, 1, 0}, {0, 2, 1, 3, 4, 5}, {3, 1, 2, 0, 5, 4}} {
		for _, chosen := range sample.Lists(pairing.Count(mate), 0, 2) {
			i := -1
			lifted(t, g, mate, func() int {
				i++
				return chosen[i]
			})
		}
	}
}

// P11.1: weights that are as great as may be together, and one more; what doesn't go together isn't looked at.
func TestShrinkWeights(t *testing.T) {
	for i, c := range []struct {
		weights []int64
		mate    []int
		e       api.Errno
	}{
		{[]int64{most, most}, []int{0, 1}, api.OK},
		{[]int64{most - 1, 1}, []int{1, 0}, api.OK},
		{[]int64{most / 2, most / 2}, []int{1, 0}, api.OK},
		{[]int64{most - 1, 2}, []int{1, 0}, api.ErrRange},
		{[]int64{most, 1}, []int{1, 0}, api.ErrRange},
		{[]int64{most, most}, []int{1, 0}, api.ErrRange},
		{[]int64{1, most, 1, 1}, []int{2, 1, 0, 3}, api.OK},
		{[]int64{1, 1, 1, most}, []int{1, 0, 3, 2}, api.ErrRange},
		{[]int64{most, 1, 1}, []int{1, 0}, api.ErrArg},
		{[]int64{most, 1, 1}, []int{1, 0, 3}, api.ErrArg},
		{[]int64{most, 1, 1}, []int{1, 0, 1}, api.ErrArg},
	} {
		g := sample.Graph(c.weights)
		shrunk(t, g, c.mate)
		if _, _, e := coarse.Shrink(g, c.mate); e != c.e {
			t.Errorf("case %d: %d; want %d", i, e, c.e)
		}
	}
}

// P11.1: what is between two pairs as great as may be, of two, three and four that are summed, and one more; what is between the two of a pair isn't counted.
func TestShrinkBetween(t *testing.T) {
	pairs := [][2]int64{{0, 2}, {0, 3}, {1, 2}, {1, 3}}
	for many := 1; many <= 4; many++ {
		for more := int64(0); more < 2; more++ {
			for first := range pairs {
				g := sample.Graph(sample.Ones(5), 0, 1, most, 2, 3, most, 0, 4, most, 4, 3, most)
				for i := range many {
					w := int64(5)
					if i == many-1 {
						w = most - 5*int64(many-1)
					}
					p := pairs[(first+i)%4]
					g.Join(int(p[0]), int(p[1]), w)
				}
				if more == 1 { // to another pair than the one that has most, and may have no room left
					p := pairs[(first+many*3)%4]
					g.Join(int(p[0]), int(p[1]), 1)
				}
				mate := []int{1, 0, 3, 2, 4}
				shrunk(t, g, mate)
				_, _, e := coarse.Shrink(g, mate)
				if over := plainOver(g); (e == api.ErrRange) != over || e != api.OK && e != api.ErrRange {
					t.Errorf("%d, from %d on, and %d: %d", many, first, more, e)
				}
			}
		}
	}
}

// plainOver tells whether more than may be is between 0 and 1 on one side, 2 and 3 on the other.
func plainOver(g *graph.Graph) bool {
	return g.Between(0, 2)+g.Between(0, 3)+g.Between(1, 2)+g.Between(1, 3) > most
}

// P11.1: mates that aren't there, however far off, and lists that are shorter or longer.
func TestShrinkWrong(t *testing.T) {
	g := sample.Graph([]int64{1, 2, 3, 4, most, 6}, 0, 3, 9, 2, 4, 9)
	for at := range 6 {
		for _, with := range sample.Strangers(6) {
			mate := []int{3, 1, 4, 0, 2, 5}
			mate[at] = with
			shrunk(t, g, mate)
		}
	}
	for n := range 13 {
		mate := make([]int, n)
		for i := range mate {
			mate[i] = i
		}
		shrunk(t, g, mate)
	}
}

// P1: of a graph that was never made no list is right, and there are no levels; a zero graph has no things.
func TestNoGraph(t *testing.T) {
	for _, mate := range [][]int{nil, {}, {0}, {1, 0}} {
		if small, in, e := coarse.Shrink(nil, mate); small != nil || in != nil || e != api.ErrArg {
			t.Errorf("%v: %d", mate, e)
		}
	}
	var zero graph.Graph
	shrunk(t, &zero, nil)
	shrunk(t, &zero, []int{0})
	for range coarse.Levels(nil, math.MinInt) {
		t.Error("a level of nothing")
	}
	for range coarse.Levels(&zero, math.MinInt) {
		t.Error("a level of no things")
	}
}

// P2: a graph that is shrunk is one of its own, and what is answered is new memory.
func TestShrunkIsNew(t *testing.T) {
	memory := []int{1, 0, 2, 8, 9}
	g := sample.Graph(sample.Ones(3), 0, 1, 3, 1, 2, 5)
	small, in, _ := coarse.Shrink(g, memory[:3])
	if !slices.Equal(memory, []int{1, 0, 2, 8, 9}) {
		t.Errorf("turned: %v", memory)
	}
	clear(memory)
	g.Join(0, 2, 100)
	if !slices.Equal(in, []int{0, 0, 1}) || small.Between(0, 1) != 5 {
		t.Errorf("%v, %d", in, small.Between(0, 1))
	}
	clear(in[:cap(in)])
	small.Join(0, 1, 1000)
	shrunk(t, g, []int{0, 1, 2})
	if _, in, _ := coarse.Shrink(g, []int{1, 0, 2}); !slices.Equal(in, []int{0, 0, 1}) {
		t.Errorf("%v", in)
	}
}

// P11.1: as many things as there may be, in pairs from both ends.
func TestShrinkGreatest(t *testing.T) {
	g := sample.Graph(slices.Repeat([]int64{most / 2}, manyest))
	mate := make([]int, manyest)
	for i := range manyest {
		g.Join(i, i+1, most/2)
		mate[i] = manyest - 1 - i
	}
	small, in, e := coarse.Shrink(g, mate)
	if e != api.OK || small.Len() != manyest/2 || small.Total() != g.Total() {
		t.Fatalf("%d", e)
	}
	for i := range manyest {
		if in[i] != min(i, manyest-1-i) {
			t.Fatalf("%d is in %d", i, in[i])
		}
	}
	for i := range small.Len() {
		if small.Weight(i) != most || small.Between(i, i+1) != most && i+1 < small.Len() {
			t.Fatalf("%d: %d, %d", i, small.Weight(i), small.Between(i, i+1))
		}
	}
}

// P11.1: all lists of up to four numbers, of parts of up to three.
func TestLiftEveryList(t *testing.T) {
	parts := []int{7, -9, math.MaxInt}
	for n := range 4 {
		for many := range 5 {
			for _, in := range sample.Lists(many, -1, n) {
				var want []int
				e := api.OK
				for _, one := range in {
					if one < 0 || one >= n {
						e = api.ErrNone
					} else {
						want = append(want, parts[one])
					}
				}
				if e != api.OK {
					want = nil
				}
				got, gotE := coarse.Lift(parts[:n], in)
				if !slices.Equal(got, want) || gotE != e || e != api.OK && got != nil {
					t.Errorf("%v of %v: %v, %d; want %v, %d", in, parts[:n], got, gotE, want, e)
				}
			}
		}
	}
}

// P11.1: those that aren't there, however far off, wherever they stand; nothing is nothing.
func TestLiftWrong(t *testing.T) {
	for at := range 4 {
		for _, one := range sample.Strangers(3) {
			in := []int{2, 0, 1, 1}
			in[at] = one
			if part, e := coarse.Lift([]int{4, 5, 6}, in); part != nil || e != api.ErrNone {
				t.Errorf("%v: %v, %d", in, part, e)
			}
		}
	}
	for _, part := range [][]int{nil, {}, {5}} {
		for _, in := range [][]int{nil, {}} {
			if got, e := coarse.Lift(part, in); len(got) != 0 || e != api.OK {
				t.Errorf("%v of %v: %v, %d", in, part, got, e)
			}
		}
	}
	if _, e := coarse.Lift(nil, []int{0}); e != api.ErrNone {
		t.Errorf("%d", e)
	}
}

// P2: lists that are handed in aren't turned, what is answered is new, and long lists are lifted.
func TestLiftIsNew(t *testing.T) {
	parts, ins := []int{3, 1, 2, 8}, []int{2, 1, 0, 9}
	got, e := coarse.Lift(parts[:3], ins[:3])
	if !slices.Equal(parts, []int{3, 1, 2, 8}) || !slices.Equal(ins, []int{2, 1, 0, 9}) {
		t.Errorf("turned: %v, %v", parts, ins)
	}
	clear(parts)
	clear(ins)
	if !slices.Equal(got, []int{2, 1, 3}) || e != api.OK {
		t.Errorf("%v, %d", got, e)
	}
	long := make([]int, 100000)
	for i := range long {
		long[i] = i
	}
	if got, e := coarse.Lift(long, long); !slices.Equal(got, long) || e != api.OK {
		t.Errorf("long: %d", e)
	}
}

// level is one of Levels, laid out.
type level struct {
	laid
	in []int
}

func (l level) is(other level) bool {
	return l.laid.is(other.laid) && slices.Equal(l.in, other.in)
}

// plainLevels is what Levels must go through.
func plainLevels(t *testing.T, g *graph.Graph, least int) []level {
	t.Helper()
	var list []level
	for g.Len() > least {
		want, in, e := plainShrink(g, pairing.Heavy(g))
		if e != api.OK || len(want.weights) >= g.Len() {
			break
		}
		list = append(list, level{want, in})
		g = sample.Graph(want.weights)
		for _, e := range want.edges {
			g.Join(e.A, e.B, e.W)
		}
	}
	return list
}

func collected(g *graph.Graph, least int) []level {
	var list []level
	for small, in := range coarse.Levels(g, least) {
		list = append(list, level{laidOf(small), in})
	}
	return list
}

// levels holds that a graph's levels are as they must be.
func levels(t *testing.T, g *graph.Graph, least int) {
	t.Helper()
	ahead := laidOf(g)
	got, want := collected(g, least), plainLevels(t, g, least)
	if !slices.EqualFunc(got, want, level.is) {
		t.Fatalf("%v, least %d: %v; want %v", ahead, least, got, want)
	}
	if !laidOf(g).is(ahead) {
		t.Fatalf("%v: turned", ahead)
	}
}

// P11.1: all graphs of up to four things, down to any number of things.
func TestLevelsEveryGraph(t *testing.T) {
	leasts := append(sample.Strangers(4), 0, 1, 2, 3)
	for n := range 5 {
		for _, which := range sample.Chosen(n*(n-1)/2, 0, 1, 2, most) {
			g := sample.Between([]int64{3, most - 10, 1, 2}[:n], which)
			for _, least := range leasts[:len(leasts)-4+n] {
				levels(t, g, least)
			}
		}
	}
}

// P11.1: greater graphs, made by a short rule.
func TestLevelsMany(t *testing.T) {
	s := sample.Numbers(12)
	for _, n := range []int{5, 9, 24, 60} {
		for round := range 20 {
			g := sample.Graph(sample.Ones(n))
			for range n * round / 4 {
				g.Join(s.Next(n), s.Next(n), int64(s.Next(1+round*round*round)+1))
			}
			for _, least := range []int{-1, 0, 1, 2, n / 4, n/2 - 1, n / 2, n/2 + 1, n - 1, n, n + 1} {
				levels(t, g, least)
			}
		}
	}
}

// P11.1: what ends the levels: few enough things, nothing between any, and what would be too heavy, or too much.
func TestLevelsEnd(t *testing.T) {
	row := []int64{0, 1, 1, 1, 2, 1, 2, 3, 1, 3, 4, 1, 4, 5, 1, 5, 6, 1, 6, 7, 1}
	heavy := sample.Ones(8)
	heavy[0] = most - 2
	for i, c := range []struct {
		g     *graph.Graph
		least int
		sizes []int
	}{
		{sample.Graph(sample.Ones(8), row...), 8, nil},
		{sample.Graph(sample.Ones(8), row...), 7, []int{4}},
		{sample.Graph(sample.Ones(8), row...), 4, []int{4}},
		{sample.Graph(sample.Ones(8), row...), 3, []int{4, 2}},
		{sample.Graph(sample.Ones(8), row...), 2, []int{4, 2}},
		{sample.Graph(sample.Ones(8), row...), 1, []int{4, 2, 1}},
		{sample.Graph(sample.Ones(8), row...), math.MinInt, []int{4, 2, 1}},
		{sample.Graph(sample.Ones(8), row...), math.MaxInt, nil},
		{sample.Graph(heavy, row...), 0, []int{4}},
		{sample.Graph(sample.Ones(8)), 0, nil},
		{sample.Graph(sample.Ones(1)), 0, nil},
		{sample.Graph(sample.Ones(2), 0, 1, most), 1, []int{1}},
		{sample.Graph(sample.Ones(3), 0, 1, most), 1, []int{2}},
		{sample.Graph(sample.Ones(4), 0, 1, most, 2, 3, most, 0, 2, most, 1, 3, 1), 1, nil},
	} {
		var sizes []int
		for _, l := range collected(c.g, c.least) {
			sizes = append(sizes, len(l.weights))
		}
		if !slices.Equal(sizes, c.sizes) {
			t.Errorf("case %d: %v; want %v", i, sizes, c.sizes)
		}
		levels(t, c.g, c.least)
	}
}

// P11.1: as many things as there may be, in a row, halved down to one.
func TestLevelsGreatest(t *testing.T) {
	g := sample.Graph(sample.Ones(manyest))
	for i := range manyest - 1 {
		g.Join(i, i+1, most)
	}
	size := manyest
	for small, in := range coarse.Levels(g, 1) {
		if len(in) != size || small.Len() != size/2 || small.Total() != manyest {
			t.Fatalf("%d of %d", small.Len(), len(in))
		}
		size /= 2
	}
	if size != 1 {
		t.Errorf("%d", size)
	}
}

// P11.1: levels are stopped at any place, and asked no more.
func TestLevelsStopped(t *testing.T) {
	g := sample.Graph(sample.Ones(8), 0, 1, 1, 1, 2, 1, 2, 3, 1, 3, 4, 1, 4, 5, 1, 5, 6, 1, 6, 7, 1)
	want := plainLevels(t, g, 1)
	for stop := 1; stop < 5; stop++ {
		var got []level
		coarse.Levels(g, 1)(func(small *graph.Graph, in []int) bool {
			got = append(got, level{laidOf(small), in})
			return len(got) < stop
		})
		if !slices.EqualFunc(got, want[:min(stop, len(want))], level.is) {
			t.Errorf("stopped at %d: %v", stop, got)
		}
	}
}

// P2: what is gone through is of the graph that was handed in, as it was, again and again, whatever is joined, or written over, behind the call and on the way.
func TestLevelsAsTheyWere(t *testing.T) {
	g := sample.Graph(sample.Ones(8), 0, 1, 1, 1, 2, 1, 2, 3, 1, 3, 4, 1, 4, 5, 1, 5, 6, 1, 6, 7, 1)
	want := plainLevels(t, g, 1)
	seq := coarse.Levels(g, 1)
	g.Join(0, 7, 1000)
	for range 3 {
		var got []level
		for small, in := range seq {
			got = append(got, level{laidOf(small), slices.Clone(in)})
			clear(in[:cap(in)])
			small.Join(0, small.Len()-1, 100)
			g.Join(0, 7, 1000)
		}
		if !slices.EqualFunc(got, want, level.is) {
			t.Errorf("%v; want %v", got, want)
		}
	}
}

// The chapter's example.
func TestExample(t *testing.T) {
	g := sample.Graph(sample.Ones(3), 0, 1, 3, 1, 2, 5)
	small, in, e := coarse.Shrink(g, []int{1, 0, 2})
	if e != api.OK || !slices.Equal(in, []int{0, 0, 1}) || small.Between(0, 1) != 5 || small.Weight(0) != 2 || small.Weight(1) != 1 {
		t.Errorf("%v, %d", in, e)
	}
}
