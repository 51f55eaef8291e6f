package ranked

import "testing"

// holds tells whether a tree's counts are right, and no side, counting one more, is above three times the other: what it needs to stay flat.
func holds(n *node[int, int]) bool {
	if n == nil {
		return true
	}
	a, b := count(n.below[less])+1, count(n.below[greater])+1
	return n.size == a+b-1 && a <= 3*b && b <= 3*a && holds(n.below[less]) && holds(n.below[greater])
}

// P7.1: behind each call the tree is even, so that no order of calls makes the next ones long.
func TestEven(t *testing.T) {
	for name, key := range map[string]func(i int) int{
		"rising":  func(i int) int { return i },
		"falling": func(i int) int { return -i },
		"inwards": func(i int) int { return (1 - i%2*2) * (1000 - i) },
		"mixed":   func(i int) int { return i * 7919 % 1009 },
	} {
		var m Map[int, int]
		for i := range 600 {
			m.Put(key(i), i)
			if !holds(m.root) {
				t.Fatalf("%s: put %d", name, i)
			}
		}
		for i := range 600 {
			m.Drop(key(i))
			if !holds(m.root) {
				t.Fatalf("%s: dropped %d", name, i)
			}
		}
	}
	var m Map[int, int]
	state := uint32(3)
	for i := range 20000 {
		state = state*1664525 + 1013904223
		if k := int(state>>8) % 150; state>>31 == 0 {
			m.Put(k, i)
		} else {
			m.Drop(k)
		}
		if !holds(m.root) {
			t.Fatalf("call %d", i)
		}
	}
}
