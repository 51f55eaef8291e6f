package parts

import (
	"slices"

	"sandtable/cut"
	"sandtable/graph"
	"sandtable/refine"
)

// pairwise refines parts two by two, round after round: they fit still, and cut less.
func pairwise(g *graph.Graph, part []int, k int) {
	turned := slices.Repeat([]bool{true}, k)
	for slices.Contains(turned, true) {
		turned = round(g, part, turned)
	}
}

// round refines each two parts that something is between, and of which one was turned in the round ahead, and tells which it turned. These rest till the next round: what was found between their things doesn't hold any more.
func round(g *graph.Graph, part []int, ahead []bool) []bool {
	turned := make([]bool, len(ahead))
	bound := cut.Bound(g, len(ahead))
	things := make([][]int, len(ahead))
	for p, list := range Groups(part, len(ahead)) {
		things[p] = list
	}
	pairs, edges := between(g, part)
	for _, pair := range pairs {
		p, q := pair[0], pair[1]
		if !ahead[p] && !ahead[q] || turned[p] || turned[q] {
			continue
		}
		both := slices.Concat(things[p], things[q])
		two := within(g, both, slices.Values(slices.Concat(edges[[2]int{p, p}], edges[pair], edges[[2]int{q, q}])))
		most := bound
		if len(part) >= len(ahead) {
			most = min(most, two.Total()-1) // neither may take in everything
		}
		side := slices.Repeat([]int{1}, len(both))
		clear(side[:len(things[p])])
		behind := refine.Refine(two, side, [2]int64{most, most})
		if !slices.Equal(behind, side) {
			turned[p], turned[q] = true, true
		}
		for at, i := range both {
			part[i] = pair[behind[at]]
		}
	}
	return turned
}

// between is each two parts that something is between, the lesser one first, and what is between things of them, or of one.
func between(g *graph.Graph, part []int) ([][2]int, map[[2]int][]graph.Edge) {
	var pairs [][2]int
	edges := map[[2]int][]graph.Edge{}
	for e := range g.Edges() {
		p, q := part[e.A], part[e.B]
		pair := [2]int{min(p, q), max(p, q)}
		if p != q && edges[pair] == nil {
			pairs = append(pairs, pair)
		}
		edges[pair] = append(edges[pair], e)
	}
	return pairs, edges
}
