package parts

import (
	"slices"

	"sandtable/coarse"
	"sandtable/cut"
	"sandtable/graph"
	"sandtable/grow"
	"sandtable/refine"
)

const (
	few   = 32   // a graph of no more things is halved without pairs
	tries = 8    // from so many of its things a side is grown, one try after the other
	work  = 2048 // but from fewer, if there are more things than this by tries: each try takes longer
	slack = 4    // pairs may make a side so many times heavier than things: more is hard to mend
)

// halver halves graphs by what their parts may weigh.
type halver struct {
	share int64 // of a part, rounded up
	over  int64 // by what a part, and both halves, may pass their shares: the greatest weight, so that a half that has no room for a thing has its share, and leaves no more than the other one's
}

// parts is k parts of a graph, halved again and again.
func (h halver) parts(g *graph.Graph, k int) []int {
	part := make([]int, g.Len())
	if k == 1 || len(part) == 0 {
		return part
	}
	counts := [2]int{k / 2, k - k/2}
	for p, things := range Groups(h.halve(g, counts), 2) {
		for at, q := range h.parts(within(g, things, g.Edges()), counts[p]) {
			part[things[at]] = p*counts[0] + q
		}
	}
	return part
}

// halve is two sides of a graph, for so many parts each: first of pairs, then of what is in them, and so on.
func (h halver) halve(g *graph.Graph, counts [2]int) []int {
	graphs, ins := levels(g)
	last := graphs[len(ins)]
	side := sides(last, h.bounds(last, counts))
	for at, in := range slices.Backward(ins) {
		side, _ = coarse.Lift(side, in)
		side = better(graphs[at], side, h.bounds(graphs[at], counts))
	}
	return side
}

// bounds is what two sides may weigh: of a graph of pairs somewhat more, so that heavy things can be moved.
func (h halver) bounds(g *graph.Graph, counts [2]int) [2]int64 {
	over := h.over
	for i := range g.Len() {
		over = max(over, min(g.Weight(i), slack*h.over))
	}
	return [2]int64{int64(counts[0])*h.share + over, int64(counts[1])*h.share + over}
}

// levels is a graph, and the graphs of pairs behind it, with what each thing is in.
func levels(g *graph.Graph) ([]*graph.Graph, [][]int) {
	graphs := []*graph.Graph{g}
	var ins [][]int
	for small, in := range coarse.Levels(g, few) {
		// If so few go with another one, many hang on one thing, which would get ever heavier, level after level.
		if small.Len() > len(in)*9/10 {
			break
		}
		graphs, ins = append(graphs, small), append(ins, in)
	}
	return graphs, ins
}

// sides is the best of several sides, grown from unlike things, to as much as one may weigh, as little, and what is between.
func sides(g *graph.Graph, bounds [2]int64) []int {
	n := g.Len()
	little := g.Total() - bounds[1]
	best := make([]int, n)
	all := min(n, max(1, min(tries, work/n)))
	for try := range all {
		order := from(try*n/all, n)
		turned := within(g, order, g.Edges())
		for _, most := range []int64{(little + bounds[0]) / 2, bounds[0], little} {
			side := make([]int, n)
			for at, p := range better(turned, grow.Halve(turned, most), bounds) {
				side[order[at]] = p
			}
			if less(g, side, best, bounds) {
				best = side
			}
		}
	}
	return best
}

// from is the numbers below n from first on, and around.
func from(first, n int) []int {
	order := make([]int, n)
	for at := range order {
		order[at] = (first + at) % n
	}
	return order
}

// better is sides that are within their bounds, if these can be met so, and cut less.
func better(g *graph.Graph, side []int, bounds [2]int64) []int {
	s := begin(g, side, 2)
	s.lighten(bounds[:])
	return refine.Refine(g, s.part, bounds)
}

// less tells whether a is less above bounds than b, or as much and cuts less.
func less(g *graph.Graph, a, b []int, bounds [2]int64) bool {
	aboveA, aboveB := above(g, a, bounds), above(g, b, bounds)
	if aboveA != aboveB {
		return aboveA < aboveB
	}
	return cut.Cut(g, a, 2) < cut.Cut(g, b, 2)
}

// above is by how much sides are above bounds.
func above(g *graph.Graph, side []int, bounds [2]int64) int64 {
	all := int64(0)
	for p, w := range cut.Weights(g, side, 2) {
		all += max(0, w-bounds[p])
	}
	return all
}
