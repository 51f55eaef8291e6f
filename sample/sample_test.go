package sample_test

import (
	"slices"
	"testing"

	"sandtable/graph"
	"sandtable/sample"
)

// What the other tests are tried on is what it is said to be: else they may hold of nothing.
func TestSample(t *testing.T) {
	g := sample.Graph([]int64{1, 2, 3}, 0, 1, 7, 2, 1, 5)
	if got := slices.Collect(g.Edges()); g.Len() != 3 || g.Weight(2) != 3 || !slices.Equal(got, []graph.Edge{{A: 0, B: 1, W: 7}, {A: 1, B: 2, W: 5}}) {
		t.Errorf("%v", got)
	}
	for i, g := range []*graph.Graph{sample.Graph([]int64{0}), sample.Graph([]int64{1, 1}, 0, 2, 5), sample.Graph([]int64{1, 1}, 0, 1)} {
		if g != nil {
			t.Errorf("case %d", i)
		}
	}
	g = sample.Between(sample.Ones(3), []int64{4, 0, 6})
	if got := slices.Collect(g.Edges()); !slices.Equal(got, []graph.Edge{{A: 0, B: 1, W: 4}, {A: 1, B: 2, W: 6}}) {
		t.Errorf("%v", got)
	}
	for n := range 10 {
		for _, i := range sample.Strangers(n) {
			if 0 <= i && i < n {
				t.Errorf("%d of %d", i, n)
			}
		}
	}
	if got := sample.Lists(2, -1, 0); !slices.EqualFunc(got, [][]int{{-1, -1}, {-1, 0}, {0, -1}, {0, 0}}, slices.Equal) {
		t.Errorf("%v", got)
	}
	if got := sample.Chosen(2, 5, 9); !slices.EqualFunc(got, [][]int64{{5, 5}, {5, 9}, {9, 5}, {9, 9}}, slices.Equal) {
		t.Errorf("%v", got)
	}
	s, again := sample.Numbers(1), sample.Numbers(1)
	seen := map[int]int{}
	for range 1000 {
		n := s.Next(5)
		if n != again.Next(5) || n < 0 || n > 4 {
			t.Fatalf("%d", n)
		}
		seen[n]++
	}
	if len(seen) != 5 {
		t.Errorf("%v", seen)
	}
}
