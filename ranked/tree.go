package ranked

import (
	"cmp"
	"iter"
)

// node is a key, what it has, and the keys below it; nil is no keys.
//
// None is turned once a map has it: a call makes anew what stands over the key that it turns, so that clones, and what is gone through, keep what there was.
type node[K cmp.Ordered, V any] struct {
	key   K
	value V
	size  int // how many keys there are, with those below
	below [2]*node[K, V]
}

// The sides of a node: keys that are less, keys that are greater.
const (
	less    = 0
	greater = 1
)

// With these two bounds a tree that was even, and has one key more or less, is even again behind one turn a node.
const (
	steep = 3 // a side's weight is at most as many times the other one's
	bent  = 2 // what hangs inwards goes up alone, if it weighs as many times what hangs outwards
)

// entry is what a node has, and true; false of none.
func (n *node[K, V]) entry() (k K, v V, ok bool) {
	if n == nil {
		return k, v, false
	}
	return n.key, n.value, true
}

func count[K cmp.Ordered, V any](n *node[K, V]) int {
	if n == nil {
		return 0
	}
	return n.size
}

// weight is above 0 for no keys too, so that weights can be held against each other by how many times.
func weight[K cmp.Ordered, V any](n *node[K, V]) int {
	return count(n) + 1
}

// side is where a key stands that compares so with a node's own; what is less than an equal one stands there too.
func side(order int) int {
	if order > 0 {
		return greater
	}
	return less
}

// find is the node of a key, or nil.
func find[K cmp.Ordered, V any](n *node[K, V], k K) *node[K, V] {
	for n != nil {
		order := cmp.Compare(k, n.key)
		if order == 0 {
			break
		}
		n = n.below[side(order)]
	}
	return n
}

// nth is the node ahead of which i others stand, or nil.
func nth[K cmp.Ordered, V any](n *node[K, V], i int) *node[K, V] {
	for n != nil {
		ahead := count(n.below[less])
		if i == ahead {
			break
		}
		if i < ahead {
			n = n.below[less]
		} else {
			n, i = n.below[greater], i-ahead-1
		}
	}
	return n
}

// rank is how many keys are less than k.
func rank[K cmp.Ordered, V any](n *node[K, V], k K) int {
	ahead := 0
	for n != nil {
		to := side(cmp.Compare(k, n.key))
		if to == greater {
			ahead += count(n.below[less]) + 1
		}
		n = n.below[to]
	}
	return ahead
}

// with is the tree in which k has v.
func with[K cmp.Ordered, V any](n *node[K, V], k K, v V) *node[K, V] {
	if n == nil {
		return &node[K, V]{key: k, value: v, size: 1}
	}
	own := *n
	order := cmp.Compare(k, n.key)
	if order == 0 {
		own.value = v
		return &own
	}
	to := side(order)
	own.below[to] = with(n.below[to], k, v)
	return even(&own)
}

// without is the tree in which k, which is there, isn't.
func without[K cmp.Ordered, V any](n *node[K, V], k K) *node[K, V] {
	order := cmp.Compare(k, n.key)
	if order == 0 {
		return joined(n.below)
	}
	own := *n
	to := side(order)
	own.below[to] = without(n.below[to], k)
	return even(&own)
}

// joined is the tree of what was below a node. The key that steps in comes from the heavier side, lest the lighter one gets too light.
func joined[K cmp.Ordered, V any](below [2]*node[K, V]) *node[K, V] {
	from, at := less, count(below[less])-1
	if count(below[greater]) > count(below[less]) {
		from, at = greater, 0
	}
	next := nth(below[from], at)
	if next == nil {
		return nil
	}
	own := *next
	own.below = below
	own.below[from] = without(below[from], next.key)
	return even(&own)
}

// even is a node that no map has yet, counted, and turned if one of its sides is too heavy.
func even[K cmp.Ordered, V any](n *node[K, V]) *node[K, V] {
	for heavy := range 2 {
		if weight(n.below[heavy]) > steep*weight(n.below[1-heavy]) {
			return turned(n, heavy)
		}
	}
	return counted(n)
}

// turned is a node that no map has yet, with a key of its heavy side over it.
func turned[K cmp.Ordered, V any](n *node[K, V], heavy int) *node[K, V] {
	own := *n.below[heavy]
	up := &own
	if weight(own.below[1-heavy]) >= bent*weight(own.below[heavy]) {
		in := *own.below[1-heavy]
		up = over(&in, up, heavy)
	}
	return over(up, n, 1-heavy)
}

// over is up, which was n's other side, with n on this one; no map has either yet.
func over[K cmp.Ordered, V any](up, n *node[K, V], to int) *node[K, V] {
	n.below[1-to] = up.below[to]
	up.below[to] = counted(n)
	return counted(up)
}

func counted[K cmp.Ordered, V any](n *node[K, V]) *node[K, V] {
	n.size = count(n.below[less]) + 1 + count(n.below[greater])
	return n
}

// entries is all keys but the first ones, with what they have, in order.
func entries[K cmp.Ordered, V any](n *node[K, V], skip int) iter.Seq2[K, V] {
	return func(yield func(K, V) bool) {
		each(n, skip, yield)
	}
}

// each hands out all keys but the first ones, and tells whether more are asked for.
func each[K cmp.Ordered, V any](n *node[K, V], skip int, yield func(K, V) bool) bool {
	for n != nil {
		ahead := count(n.below[less])
		if skip < ahead && !each(n.below[less], skip, yield) {
			return false
		}
		if skip <= ahead && !yield(n.key, n.value) {
			return false
		}
		n, skip = n.below[greater], max(skip-ahead-1, 0)
	}
	return true
}
