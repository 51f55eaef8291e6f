package parts

import (
	"slices"

	"sandtable/cut"
	"sandtable/graph"
)

// shares is parts of a graph, thing by thing on their way to others.
type shares struct {
	g       *graph.Graph
	part    []int
	weights []int64 // what each part weighs
	counts  []int   // how many things each part has
	degree  []int64 // for each thing, all that is between it and others
	inside  []int64 // and of that what is between it and its own part
}

// begin is right parts ahead of the first move.
func begin(g *graph.Graph, part []int, k int) *shares {
	s := &shares{
		g:       g,
		part:    slices.Clone(part),
		weights: cut.Weights(g, part, k),
		counts:  make([]int, k),
		degree:  make([]int64, len(part)),
		inside:  make([]int64, len(part)),
	}
	for i, p := range part {
		s.counts[p]++
		for other, w := range g.Near(i) {
			s.degree[i] += w
			if part[other] == p {
				s.inside[i] += w
			}
		}
	}
	return s
}

// move moves a thing to another part.
func (s *shares) move(i, to int) {
	from := s.part[i]
	s.part[i] = to
	s.weights[from] -= s.g.Weight(i)
	s.weights[to] += s.g.Weight(i)
	s.counts[from]--
	s.counts[to]++
	for other, w := range s.g.Near(i) {
		switch s.part[other] {
		case from:
			s.inside[i] -= w
			s.inside[other] -= w
		case to:
			s.inside[i] += w
			s.inside[other] += w
		}
	}
}

// lighten moves things out of each part that is above its bound, till it isn't, or no other part has room for one.
func (s *shares) lighten(bounds []int64) {
	for p, bound := range bounds {
		for s.weights[p] > bound {
			room := s.room(p, bounds)
			i, ok := s.loosest(s.pull, func(i int) bool {
				return s.part[i] == p && s.g.Weight(i) <= room
			})
			if !ok {
				break
			}
			s.move(i, s.nearest(i, bounds))
		}
	}
}

// fill gives each part that has nothing a thing of one that has several: there it has nothing with any, wherever it comes from.
func (s *shares) fill() {
	alone := func(i int) int64 {
		return s.inside[i]
	}
	for p := range cut.Empty(s.part, len(s.counts)) {
		i, ok := s.loosest(alone, func(i int) bool {
			return s.counts[s.part[i]] > 1
		})
		if ok {
			s.move(i, p)
		}
	}
}

// room is how much another part than p still may take, at the most.
func (s *shares) room(p int, bounds []int64) int64 {
	room := int64(0)
	for q, bound := range bounds {
		if q != p {
			room = max(room, bound-s.weights[q])
		}
	}
	return room
}

// pull is what is between a thing and its own part, less what is between it and others: where it goes among these is asked later.
func (s *shares) pull(i int) int64 {
	return 2*s.inside[i] - s.degree[i]
}

// loosest is, of those things that may be moved, the first one that is held least, and true; false, if there is none.
func (s *shares) loosest(hold func(int) int64, may func(int) bool) (int, bool) {
	first, least, ok := 0, int64(0), false
	for i := range s.part {
		if held := hold(i); (!ok || held < least) && may(i) {
			first, least, ok = i, held, true
		}
	}
	return first, ok
}

// nearest is, of the parts that have room for a thing, as its own hasn't, the one that it has most with, of several the lightest, and of these the first.
func (s *shares) nearest(i int, bounds []int64) int {
	with := make([]int64, len(bounds))
	for other, w := range s.g.Near(i) {
		with[s.part[other]] += w
	}
	own := s.part[i]
	to := own
	for q, bound := range bounds {
		if s.weights[q]+s.g.Weight(i) > bound {
			continue
		}
		if to == own || with[q] > with[to] || with[q] == with[to] && s.weights[q] < s.weights[to] {
			to = q
		}
	}
	return to
}
