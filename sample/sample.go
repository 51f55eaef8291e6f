// Package sample makes what the layers' tests are tried on.
package sample

import (
	"math"
	"slices"

	"sandtable/api"
	"sandtable/graph"
)

// Graph is a graph of weights, and of joins, three numbers each; nil, if one of them can't be.
func Graph(weights []int64, joins ...int64) *graph.Graph {
	g, e := graph.New(weights)
	if e != api.OK {
		return nil
	}
	for join := range slices.Chunk(joins, 3) {
		if len(join) < 3 || g.Join(int(join[0]), int(join[1]), join[2]) != api.OK {
			return nil
		}
	}
	return g
}

// Between is a graph of weights with, between any two, one of the numbers in which, by the greater one, then by the lesser; nothing where that is 0.
func Between(weights []int64, which []int64) *graph.Graph {
	g := Graph(weights)
	for b := range weights {
		for a := range b {
			g.Join(a, b, which[b*(b-1)/2+a]) // a join of 0 is refused, and turns nothing
		}
	}
	return g
}

// Ones is n weights of 1.
func Ones(n int) []int64 {
	return slices.Repeat([]int64{1}, n)
}

// Strangers is numbers, near and far, that aren't from 0 to n - 1.
func Strangers(n int) []int {
	return []int{-1, n, n + 1, -n - 1, -4096, 4096, 1 << 24, 1 << 32, 1<<32 + 2, 1 << 52, 1 << 62, math.MaxInt, math.MinInt}
}

// Lists is all lists of n numbers from low to high.
func Lists(n, low, high int) [][]int {
	all := [][]int{{}}
	for range n {
		var longer [][]int
		for _, list := range all {
			for p := low; p <= high; p++ {
				longer = append(longer, append(slices.Clone(list), p))
			}
		}
		all = longer
	}
	return all
}

// Chosen is all lists of n of some numbers.
func Chosen(n int, of ...int64) [][]int64 {
	var all [][]int64
	for _, places := range Lists(n, 0, len(of)-1) {
		list := make([]int64, n)
		for i, place := range places {
			list[i] = of[place]
		}
		all = append(all, list)
	}
	return all
}

// Numbers are numbers by a short rule, the same ones again from the same beginning.
type Numbers uint32

// Next is the next number from 0 to below - 1.
func (s *Numbers) Next(below int) int {
	*s = *s*1664525 + 1013904223
	return int(*s>>8) % below
}
