package graph_test

import (
	"iter"
	"math"
	"slices"
	"strconv"
	"testing"

	"sandtable/api"
	"sandtable/graph"
)

const most = 1 << 40

// plain is what a graph must do: weights, and a table of what is between.
type plain struct {
	weights []int64
	between [][]int64
}

func newPlain(weights []int64) *plain {
	p := &plain{weights: slices.Clone(weights)}
	for range weights {
		p.between = append(p.between, make([]int64, len(weights)))
	}
	return p
}

func (p *plain) has(i int) bool { return 0 <= i && i < len(p.weights) }

func (p *plain) at(a, b int) int64 {
	if !p.has(a) || !p.has(b) {
		return 0
	}
	return p.between[a][b]
}

func (p *plain) join(a, b int, w int64) api.Errno {
	switch {
	case !p.has(a), !p.has(b), a == b:
		return api.ErrArg
	case w < 1, w > most, p.between[a][b]+w > most:
		return api.ErrRange
	}
	p.between[a][b] += w
	p.between[b][a] += w
	return api.OK
}

// near is what stands in the table for one.
func (p *plain) near(i int) []graph.Edge {
	var list []graph.Edge
	for b := range p.weights {
		if w := p.at(i, b); w > 0 {
			list = append(list, graph.Edge{A: i, B: b, W: w})
		}
	}
	return list
}

func (p *plain) edges() []graph.Edge {
	var list []graph.Edge
	for a := range p.weights {
		for _, e := range p.near(a) {
			if e.A < e.B {
				list = append(list, e)
			}
		}
	}
	return list
}

// strangers are numbers of no thing in a graph of n.
func strangers(n int) []int {
	return []int{-1, n, n + 1, -n, -4096, 4096, 1 << 24, 1 << 52, 1 << 62, math.MaxInt, math.MinInt}
}

func nearOf(i int, seq iter.Seq2[int, int64]) []graph.Edge {
	var list []graph.Edge
	for b, w := range seq {
		list = append(list, graph.Edge{A: i, B: b, W: w})
	}
	return list
}

// same holds that each call that only asks answers of g as of p.
func same(t *testing.T, name string, g *graph.Graph, p *plain) {
	t.Helper()
	n := len(p.weights)
	total := int64(0)
	for _, w := range p.weights {
		total += w
	}
	if g.Len() != n || g.Total() != total {
		t.Fatalf("%s: Len %d, Total %d; want %d, %d", name, g.Len(), g.Total(), n, total)
	}
	things := strangers(n)
	for i := range n {
		things = append(things, i)
	}
	for _, a := range things {
		degree, weight := int64(0), int64(0)
		for _, e := range p.near(a) {
			degree += e.W
		}
		if p.has(a) {
			weight = p.weights[a]
		}
		if g.Weight(a) != weight || g.Degree(a) != degree {
			t.Fatalf("%s: %d has weight %d, degree %d; want %d, %d", name, a, g.Weight(a), g.Degree(a), weight, degree)
		}
		if got := nearOf(a, g.Near(a)); !slices.Equal(got, p.near(a)) {
			t.Fatalf("%s: Near(%d): %v; want %v", name, a, got, p.near(a))
		}
		for _, b := range things {
			if w := g.Between(a, b); w != p.at(a, b) {
				t.Fatalf("%s: Between(%d, %d): %d; want %d", name, a, b, w, p.at(a, b))
			}
		}
	}
	if got := slices.Collect(g.Edges()); !slices.Equal(got, p.edges()) {
		t.Fatalf("%s: Edges: %v; want %v", name, got, p.edges())
	}
}

// made is a graph of these weights, and what it must do.
func made(t *testing.T, weights ...int64) (*graph.Graph, *plain) {
	t.Helper()
	g, e := graph.New(weights)
	if e != api.OK || g == nil {
		t.Fatalf("%v: %d", weights, e)
	}
	return g, newPlain(weights)
}

// ones is n weights of 1.
func ones(n int) []int64 {
	return slices.Repeat([]int64{1}, n)
}

// P8.1: weights at their bounds, one alone and behind others; nil with an error.
func TestNewWeights(t *testing.T) {
	for _, c := range []struct {
		w int64
		e api.Errno
	}{
		{1, api.OK}, {2, api.OK}, {most - 1, api.OK}, {most, api.OK},
		{0, api.ErrRange}, {-1, api.ErrRange}, {most + 1, api.ErrRange}, {-most, api.ErrRange},
		{math.MaxInt64, api.ErrRange}, {math.MinInt64, api.ErrRange},
	} {
		for _, list := range [][]int64{{c.w}, {c.w, 1, 5}, {5, c.w, most}, {1, 1, 1, c.w}} {
			g, e := graph.New(list)
			if e != c.e || (g == nil) != (e != api.OK) {
				t.Errorf("%v: %d", list, e)
			}
			if g != nil {
				same(t, "new", g, newPlain(list))
			}
		}
	}
}

// P8.1: as many things as may be, and more; too many comes ahead of a wrong weight.
func TestNewMany(t *testing.T) {
	wrong := ones(5000)
	wrong[0] = 0
	for _, c := range []struct {
		list []int64
		e    api.Errno
	}{
		{nil, api.OK}, {[]int64{}, api.OK}, {ones(4095), api.OK}, {ones(4096), api.OK},
		{ones(4097), api.ErrMany}, {ones(100000), api.ErrMany},
		{wrong[:4096], api.ErrRange}, {wrong[:4097], api.ErrMany}, {wrong, api.ErrMany},
	} {
		g, e := graph.New(c.list)
		if e != c.e || (g == nil) != (e != api.OK) {
			t.Errorf("%d: %d", len(c.list), e)
		}
		if g != nil && (g.Len() != len(c.list) || g.Total() != int64(len(c.list))) {
			t.Errorf("%d: Len %d, Total %d", len(c.list), g.Len(), g.Total())
		}
	}
}

// P8.1: a graph of nothing.
func TestNothing(t *testing.T) {
	g, p := made(t)
	for _, a := range append(strangers(0), 0) {
		if e := g.Join(a, 0, 1); e != api.ErrArg {
			t.Errorf("Join(%d, 0): %d", a, e)
		}
	}
	same(t, "nothing", g, p)
}

// P2: the weights that are handed in, and the memory behind them, are neither turned nor kept.
func TestWeightsAreACopy(t *testing.T) {
	memory := []int64{4, 5, 6, 7}
	g, e := graph.New(memory[:3])
	if e != api.OK || !slices.Equal(memory, []int64{4, 5, 6, 7}) {
		t.Fatalf("%d, %v", e, memory)
	}
	p := newPlain(memory[:3])
	g.Join(0, 2, 9)
	p.join(0, 2, 9)
	if !slices.Equal(memory, []int64{4, 5, 6, 7}) {
		t.Errorf("turned: %v", memory)
	}
	clear(memory)
	same(t, "written over", g, p)
}

// P8.1: what is wrong with a Join, in order, turns nothing.
func TestJoinWrong(t *testing.T) {
	g, p := made(t, 1, 2, 3)
	for _, c := range [][2]int{{0, 1}, {1, 2}} {
		g.Join(c[0], c[1], 5)
		p.join(c[0], c[1], 5)
	}
	things := append(strangers(3), 0, 1, 2)
	for _, w := range []int64{0, -1, most + 1, most, most - 4, math.MaxInt64, math.MinInt64, math.MaxInt64 - 4} {
		for _, a := range things {
			for _, b := range things {
				if !p.has(a) || !p.has(b) || a == b {
					if e := g.Join(a, b, w); e != api.ErrArg {
						t.Errorf("Join(%d, %d, %d): %d", a, b, w, e)
					}
				} else if p.between[a][b] > 0 || w < 1 || w > most {
					if e := g.Join(a, b, w); e != api.ErrRange {
						t.Errorf("Join(%d, %d, %d): %d", a, b, w, e)
					}
				}
			}
		}
	}
	same(t, "not turned", g, p)
}

// P8.1: what is between two up to its bound, from either side; behind one that is too much, less still goes in.
func TestJoinBound(t *testing.T) {
	for _, first := range []int64{1, 2, most / 2, most - 1, most} {
		g, p := made(t, 1, 1, 1)
		for i, w := range []int64{first, most - first + 1, most, most - first, 1, most} {
			a, b := i%2, 1-i%2
			if e, want := g.Join(a, b, w), p.join(a, b, w); e != want {
				t.Errorf("%d, then %d: %d; want %d", first, w, e, want)
			}
			same(t, "bound", g, p)
		}
		if g.Between(0, 1) != most {
			t.Errorf("%d: %d", first, g.Between(0, 1))
		}
	}
}

// P8.1, P8.2: every order of five calls that join three things.
func TestEveryOrderOfCalls(t *testing.T) {
	pairs := [][2]int{{0, 1}, {1, 0}, {2, 0}, {1, 2}, {2, 1}, {1, 1}, {3, 0}}
	for n := range 7 * 7 * 7 * 7 * 7 {
		g, p := made(t, 3, 1, 2)
		name := "calls " + strconv.FormatInt(int64(n), 7)
		for i, left := 0, n; i < 5; i, left = i+1, left/7 {
			c := pairs[left%7]
			w := int64(1) << (10 * i)
			if e, want := g.Join(c[0], c[1], w), p.join(c[0], c[1], w); e != want {
				t.Fatalf("%s: Join(%d, %d, %d): %d; want %d", name, c[0], c[1], w, e, want)
			}
		}
		same(t, name, g, p)
	}
}

// P8.1, P8.2: many joins by a short rule, wrong ones too.
func TestMany(t *testing.T) {
	for _, n := range []int{1, 2, 7, 40} {
		var weights []int64
		for i := range n {
			weights = append(weights, int64(i*i+1))
		}
		g, p := made(t, weights...)
		state := uint32(n)
		next := func(below int) int {
			state = state*1664525 + 1013904223
			return int(state>>8) % below
		}
		for i := range 1500 {
			a, b, w := next(n+2)-1, next(n+2)-1, int64(next(1<<20))<<next(24)
			if e, want := g.Join(a, b, w), p.join(a, b, w); e != want {
				t.Fatalf("%d: Join(%d, %d, %d): %d; want %d", i, a, b, w, e, want)
			}
			if i%300 == 0 {
				same(t, "of "+strconv.Itoa(n), g, p)
			}
		}
		same(t, "of "+strconv.Itoa(n), g, p)
	}
}

// P8.1, P8.2: the greatest sums there are: they don't go round.
func TestGreatest(t *testing.T) {
	const n = 4096
	g, e := graph.New(slices.Repeat([]int64{most}, n))
	if e != api.OK || g.Total() != n*most {
		t.Fatalf("%d, Total %d", e, g.Total())
	}
	for i := range n - 1 {
		if e := g.Join(n-1, i, most); e != api.OK {
			t.Fatalf("%d: %d", i, e)
		}
	}
	if g.Degree(n-1) != (n-1)*most || g.Degree(0) != most || g.Between(17, n-1) != most || g.Between(17, 18) != 0 {
		t.Errorf("degree %d", g.Degree(n-1))
	}
	at := 0
	for e := range g.Edges() {
		if want := (graph.Edge{A: at, B: n - 1, W: most}); e != want {
			t.Fatalf("%v; want %v", e, want)
		}
		at++
	}
	if at != n-1 {
		t.Errorf("%d edges", at)
	}
}

// full is a graph in which something else is between any two.
func full(t *testing.T, n int) (*graph.Graph, *plain) {
	g, p := made(t, ones(n)...)
	for b := range n {
		for a := range b {
			g.Join(b, a, int64(a*100+b))
			p.join(b, a, int64(a*100+b))
		}
	}
	return g, p
}

// P8.2: what is between two is so from either side, and edges are half of degrees.
func TestEitherSide(t *testing.T) {
	for n := range 20 {
		g, p := full(t, n)
		same(t, "full", g, p)
		degrees, edges := int64(0), int64(0)
		for a := range n {
			degrees += g.Degree(a)
			for b := range n {
				if g.Between(a, b) != g.Between(b, a) {
					t.Errorf("%d, %d", a, b)
				}
			}
		}
		for e := range g.Edges() {
			edges += e.W
		}
		if 2*edges != degrees {
			t.Errorf("%d: edges %d, degrees %d", n, edges, degrees)
		}
	}
}

// P8.1: what is gone through is stopped at any place, asked no more, and begins again.
func TestStopped(t *testing.T) {
	const n = 9
	g, p := full(t, n)
	for stop := 1; stop <= n*n; stop++ {
		var edges []graph.Edge
		g.Edges()(func(e graph.Edge) bool {
			edges = append(edges, e)
			return len(edges) < stop
		})
		if want := p.edges(); !slices.Equal(edges, want[:min(stop, len(want))]) {
			t.Errorf("stopped at %d: %v", stop, edges)
		}
		for i := range n {
			var near []graph.Edge
			g.Near(i)(func(b int, w int64) bool {
				near = append(near, graph.Edge{A: i, B: b, W: w})
				return len(near) < stop
			})
			if want := p.near(i); !slices.Equal(near, want[:min(stop, len(want))]) {
				t.Errorf("%d, stopped at %d: %v", i, stop, near)
			}
		}
	}
}

// P2: what is gone through is what there was at the call, again and again, whatever is joined behind it or on the way.
func TestGoneThroughAsItWas(t *testing.T) {
	g, p := made(t, ones(6)...)
	for i := range 5 {
		g.Join(i, i+1, 10)
		p.join(i, i+1, 10)
	}
	edges, wantEdges := g.Edges(), p.edges()
	near, wantNear := g.Near(2), p.near(2)
	for range 2 {
		var got []graph.Edge
		for e := range edges {
			got = append(got, e)
			for a := range 6 {
				g.Join(a, e.B, 3)
				p.join(a, e.B, 3)
			}
		}
		if !slices.Equal(got, wantEdges) {
			t.Errorf("Edges: %v", got)
		}
		got = nil
		for b, w := range near {
			got = append(got, graph.Edge{A: 2, B: b, W: w})
			g.Join(2, 5, 1)
			p.join(2, 5, 1)
		}
		if !slices.Equal(got, wantNear) {
			t.Errorf("Near: %v", got)
		}
	}
	same(t, "behind it", g, p)
}

// P2: graphs of the same weights don't know of each other.
func TestGraphsApart(t *testing.T) {
	g, p := made(t, 1, 2)
	h, q := made(t, 1, 2)
	g.Join(0, 1, 3)
	p.join(0, 1, 3)
	same(t, "one", g, p)
	same(t, "other", h, q)
}

// The chapter's example.
func TestExample(t *testing.T) {
	g, _ := made(t, 1, 2)
	if g.Join(0, 1, 3) != api.OK || g.Join(0, 1, 4) != api.OK || g.Between(0, 1) != 7 {
		t.Error(g.Between(0, 1))
	}
}
