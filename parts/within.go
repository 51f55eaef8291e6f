package parts

import (
	"iter"

	"sandtable/graph"
)

// within is the graph of some things of a graph, in their order, with those of the edges that are between two of them.
func within(g *graph.Graph, things []int, edges iter.Seq[graph.Edge]) *graph.Graph {
	weights := make([]int64, len(things))
	place := map[int]int{}
	for at, i := range things {
		weights[at] = g.Weight(i)
		place[i] = at
	}
	small, _ := graph.New(weights)
	for e := range edges {
		a, okA := place[e.A]
		b, okB := place[e.B]
		if okA && okB {
			small.Join(a, b, e.W)
		}
	}
	return small
}
