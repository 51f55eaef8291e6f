package refine

import (
	"iter"
	"slices"

	"sandtable/graph"
)

// pass is a pass on its way.
type pass struct {
	weights []int64                 // of each thing
	near    []iter.Seq2[int, int64] // what is between each and others
	part    []int                   // where each is
	bounds  [2]int64                // of both parts
	heavy   [2]int64                // what both weigh
	gain    []int64                 // of each thing's move
	moved   []bool                  // those that are moved already
}

// begin is a pass ahead of its first move. It holds the graph and the parts as they are now: the caller may turn both before they are gone through, or between two moves.
func begin(g *graph.Graph, part []int, bounds [2]int64) pass {
	p := pass{part: slices.Clone(part), bounds: bounds}
	for i := range part {
		p.weights = append(p.weights, g.Weight(i))
		p.near = append(p.near, g.Near(i))
	}
	return p
}

// again is the pass from its beginning on, turned without the one that it is made of.
func (p pass) again() *pass {
	p.part = slices.Clone(p.part)
	p.gain = make([]int64, len(p.part))
	p.moved = make([]bool, len(p.part))
	for i, w := range p.weights {
		p.heavy[p.part[i]] += w // so few of such weights don't go round, nor does what is between one and others
		p.gain[i] = p.asked(i)
	}
	return &p
}

// asked is what a thing's move gains.
func (p *pass) asked(i int) int64 {
	gain := int64(0)
	for other, w := range p.near[i] {
		if p.part[other] == p.part[i] {
			gain -= w
		} else {
			gain += w
		}
	}
	return gain
}

// next is the first of those whose move gains most, and true; false, if none may be moved any more.
func (p *pass) next() (int, bool) {
	first, ok := 0, false
	for i, gain := range p.gain {
		if p.may(i) && (!ok || gain > p.gain[first]) {
			first, ok = i, true
		}
	}
	return first, ok
}

// may tells whether a thing wasn't moved yet, and the other part has room for it.
func (p *pass) may(i int) bool {
	to := 1 - p.part[i]
	return !p.moved[i] && p.heavy[to]+p.weights[i] <= p.bounds[to]
}

// move moves a thing, and turns what others gain: to ask them all anew takes too long.
func (p *pass) move(i int) {
	from, to := p.part[i], 1-p.part[i]
	p.part[i], p.moved[i] = to, true
	p.heavy[from] -= p.weights[i]
	p.heavy[to] += p.weights[i]
	for other, w := range p.near[i] {
		if p.part[other] == from {
			p.gain[other] += 2 * w
		} else {
			p.gain[other] -= 2 * w
		}
	}
}
