package heap_test

import (
	"cmp"
	"math"
	"runtime"
	"slices"
	"strconv"
	"testing"
	"weak"

	"sandtable/heap"
)

// pair is a key, by which things are in order, and a tag, which tells equal ones apart.
type pair struct{ key, tag int }

func byKey(a, b pair) bool { return a.key < b.key }

// orders are strict orders of pairs, in some of which many things are equal.
var orders = []struct {
	name string
	less func(a, b pair) bool
}{
	{"upwards", byKey},
	{"downwards", func(a, b pair) bool { return a.key > b.key }},
	{"all equal", func(a, b pair) bool { return false }},
	{"by threes", func(a, b pair) bool { return a.key/3 < b.key/3 }},
	{"by tags too", func(a, b pair) bool { return a.key < b.key || a.key == b.key && a.tag > b.tag }},
	{"no order handed in", nil},
}

// plain is what a heap must do: a list, looked through from its beginning.
type plain struct {
	list []pair
	less func(a, b pair) bool
}

func (p *plain) least() int {
	at := 0
	for i := range p.list {
		if p.less != nil && p.less(p.list[i], p.list[at]) {
			at = i
		}
	}
	return at
}

func (p *plain) peek() (pair, bool) {
	if len(p.list) == 0 {
		return pair{}, false
	}
	return p.list[p.least()], true
}

func (p *plain) pop() (pair, bool) {
	x, ok := p.peek()
	if ok {
		at := p.least()
		p.list = slices.Delete(p.list, at, at+1)
	}
	return x, ok
}

// both is a heap, and what it must do.
type both struct {
	t    *testing.T
	name string
	h    *heap.Heap[pair]
	p    *plain
	tag  int
}

func pairUp(t *testing.T, name string, less func(a, b pair) bool) *both {
	return &both{t, name, heap.New(less), &plain{nil, less}, 0}
}

func (b *both) push(key int) {
	b.tag++
	x := pair{key, b.tag}
	b.h.Push(x)
	b.p.list = append(b.p.list, x)
	b.same()
}

func (b *both) pop() {
	b.t.Helper()
	x, ok := b.h.Pop()
	if want, is := b.p.pop(); x != want || ok != is {
		b.t.Fatalf("%s: Pop: %v, %v; want %v, %v", b.name, x, ok, want, is)
	}
	b.same()
}

// drain takes out at most so many; one that is stopped takes out no more.
func (b *both) drain(most int) {
	b.t.Helper()
	for x := range b.h.Drain() {
		if want, _ := b.p.pop(); x != want {
			b.t.Fatalf("%s: Drain: %v; want %v", b.name, x, want)
		}
		b.same()
		most--
		if most == 0 {
			return
		}
	}
	if len(b.p.list) > 0 {
		b.t.Fatalf("%s: Drain ends with %d left", b.name, len(b.p.list))
	}
}

// same holds that as many are in, and that the least is told, as often as it is asked for.
func (b *both) same() {
	b.t.Helper()
	want, is := b.p.peek()
	for range 2 {
		if x, ok := b.h.Peek(); x != want || ok != is || b.h.Len() != len(b.p.list) {
			b.t.Fatalf("%s: Peek: %v, %v, of %d; want %v, %v, of %d", b.name, x, ok, b.h.Len(), want, is, len(b.p.list))
		}
	}
}

// P6.1: nothing comes out of an empty heap, however it came to be empty.
func TestEmpty(t *testing.T) {
	b := pairUp(t, "empty", byKey)
	for range 3 {
		b.same()
		b.pop()
		b.pop()
		b.drain(-1)
		b.push(4)
		b.push(2)
		b.pop()
		b.drain(-1)
	}
	texts := heap.New(func(a, b *string) bool { return *a < *b })
	if x, ok := texts.Pop(); x != nil || ok {
		t.Error("nothing taken out")
	}
	if x, ok := texts.Peek(); x != nil || ok || texts.Len() != 0 {
		t.Error("nothing told")
	}
}

// P6.1, P6.2: every order of six calls, in each order of things.
func TestEveryOrderOfCalls(t *testing.T) {
	for _, o := range orders {
		for n := range 6 * 6 * 6 * 6 * 6 * 6 {
			b := pairUp(t, o.name+", calls "+strconv.FormatInt(int64(n), 6), o.less)
			for left := n; left > 0; left /= 6 {
				switch call := left % 6; call {
				case 0:
					b.pop()
				case 1:
					b.drain(2)
				default:
					b.push(call)
				}
			}
			b.drain(-1)
		}
	}
}

// P6.1, P6.2: many in, and out, by a short rule, in each order of things.
func TestMany(t *testing.T) {
	for _, o := range orders {
		b := pairUp(t, o.name, o.less)
		state := uint32(1)
		for range 3000 {
			state = state*1664525 + 1013904223
			switch key := int(state >> 24); {
			case key < 100:
				b.pop()
			case key < 105:
				b.drain(10)
			default:
				b.push(key % 20)
			}
		}
		b.drain(-1)
	}
}

// P6.2: numbers of every sort, all that were put in, least first.
func TestNumbers(t *testing.T) {
	h := heap.New(func(a, b int64) bool { return a < b })
	list := []int64{3, 1, 2, math.MaxInt64, -7, math.MinInt64, 0, 3, math.MinInt64 + 1, -7}
	for _, n := range list {
		h.Push(n)
	}
	if got := slices.Collect(h.Drain()); !slices.Equal(got, slices.Sorted(slices.Values(list))) {
		t.Errorf("%v", got)
	}
	texts := heap.New(func(a, b string) bool { return a < b })
	for _, s := range []string{"b", "", "ab", "a", "\xff", ""} {
		texts.Push(s)
	}
	if got := slices.Collect(texts.Drain()); !slices.Equal(got, []string{"", "", "a", "ab", "b", "\xff"}) {
		t.Errorf("%q", got)
	}
	for n := range 300 {
		h := heap.New(func(a, b int) bool { return a < b })
		for i := range n {
			h.Push((i * 7919) % n)
		}
		got := slices.Collect(h.Drain())
		if !slices.IsSorted(got) || len(got) != n || h.Len() != 0 {
			t.Errorf("%d: %v", n, got)
		}
	}
}

// P6.1: what is gone through takes out only as it is asked, and goes on from where things are: what is put in or taken out on the way counts.
func TestDrainGoesOn(t *testing.T) {
	h := heap.New(func(a, b int) bool { return a < b })
	seq := h.Drain()
	for _, n := range []int{5, 1, 3} {
		h.Push(n)
	}
	for x := range seq {
		if x != 1 || h.Len() != 2 {
			t.Errorf("first %d, %d left", x, h.Len())
		}
		break
	}
	h.Push(2)
	if h.Len() != 3 {
		t.Errorf("%d left", h.Len())
	}
	var got []int
	for x := range seq {
		got = append(got, x)
		switch x {
		case 2:
			h.Push(1)
			h.Push(4)
		case 3:
			if n, ok := h.Pop(); n != 4 || !ok {
				t.Errorf("on the way: %d", n)
			}
		}
	}
	if !slices.Equal(got, []int{2, 1, 3, 5}) {
		t.Errorf("%v", got)
	}
	for x := range seq {
		t.Errorf("%d behind the last", x)
	}
	h.Push(9)
	if got := slices.Collect(seq); !slices.Equal(got, []int{9}) {
		t.Errorf("again: %v", got)
	}
}

// P6.1: two that go through one heap share what is in it.
func TestDrainWithinDrain(t *testing.T) {
	h := heap.New(func(a, b int) bool { return a < b })
	for n := range 6 {
		h.Push(n)
	}
	var got []int
	for x := range h.Drain() {
		for y := range h.Drain() {
			got = append(got, 10*x+y)
			break
		}
	}
	if !slices.Equal(got, []int{1, 23, 45}) {
		t.Errorf("%v", got)
	}
}

// P6.1: heaps don't know of each other.
func TestHeapsApart(t *testing.T) {
	up, down := pairUp(t, "upwards", byKey), pairUp(t, "downwards", orders[1].less)
	for k := range 20 {
		up.push(k * 7 % 20)
		down.push(k * 3 % 20)
		if k%3 == 0 {
			up.pop()
		}
	}
	down.drain(-1)
	up.drain(-1)
}

// P6.2: what isn't an order at all: as many come out as were put in, each once.
func TestNoOrder(t *testing.T) {
	state := uint32(5)
	for name, less := range map[string]func(a, b pair) bool{
		"each ahead of each": func(a, b pair) bool { return true },
		"round and round":    func(a, b pair) bool { return (b.key-a.key+30)%3 == 1 },
		"by chance":          func(a, b pair) bool { state = state*1664525 + 1013904223; return state>>31 == 1 },
	} {
		h := heap.New(less)
		var want []pair
		for i := range 100 {
			want = append(want, pair{i % 10, i})
			h.Push(want[i])
		}
		got := slices.Collect(h.Drain())
		sorted := heap.Sort(want, less)
		for _, l := range [][]pair{got, sorted} {
			slices.SortFunc(l, func(a, b pair) int { return cmp.Compare(a.tag, b.tag) })
			if !slices.Equal(l, want) {
				t.Errorf("%s: %v", name, l)
			}
		}
	}
}

// P6.2: an order that panics takes nothing away, and leaves the order of the others.
func TestOrderPanics(t *testing.T) {
	for after := range 12 {
		calls, armed := 0, false
		h := heap.New(func(a, b int) bool {
			calls++
			if armed && calls > after {
				panic("no order")
			}
			return a < b
		})
		want := []int{0, 1, 2, 3, 4, 5, 6, 7, 8, 9}
		for _, n := range want {
			h.Push((n*3 + 5) % 10)
		}
		attempt := func(call func()) (held bool) {
			defer func() { held, armed = recover() == nil, false }()
			calls, armed = 0, true
			call()
			return
		}
		if attempt(func() { h.Pop() }) {
			want = want[1:]
		}
		if attempt(func() { h.Push(-1) }) {
			want = append([]int{-1}, want...)
		}
		if got := slices.Collect(h.Drain()); !slices.Equal(got, want) {
			t.Errorf("after %d: %v; want %v", after, got, want)
		}
	}
}

// put puts something new in, and answers what tells whether it is kept alive.
func put(h *heap.Heap[*[64]int], n int) weak.Pointer[[64]int] {
	x := &[64]int{n}
	h.Push(x)
	return weak.Make(x)
}

// P6.1: what was taken out is cleared: the heap doesn't hold it any more, though it is there still.
func TestTakenOutIsCleared(t *testing.T) {
	h := heap.New(func(a, b *[64]int) bool { return a[0] < b[0] })
	var held []weak.Pointer[[64]int]
	for n := range 40 {
		held = append(held, put(h, n))
	}
	for range 10 {
		h.Pop()
	}
	for range h.Drain() {
		if h.Len() == 15 {
			break
		}
	}
	runtime.GC()
	runtime.GC()
	for n, x := range held {
		if is := x.Value() != nil; is != (n >= 25) {
			t.Errorf("%d: held %v", n, is)
		}
	}
	runtime.KeepAlive(h)
}

// P6.1, P6.2: every list of up to six keys of three, and longer ones, in each order of things, equal ones as they stood.
func TestSort(t *testing.T) {
	for _, o := range orders {
		for n := range 4 * 4 * 4 * 4 * 4 * 4 {
			var list []pair
			for left := n; left > 0; left /= 4 {
				if key := left % 4; key > 0 {
					list = append(list, pair{key, len(list)})
				}
			}
			sorts(t, o.name, list, o.less)
		}
		for _, n := range []int{7, 8, 9, 100, 1000} {
			var list []pair
			for i := range n {
				list = append(list, pair{i * 7919 % 13, i})
			}
			sorts(t, o.name, list, o.less)
		}
	}
	if list := heap.Sort(nil, byKey); len(list) != 0 {
		t.Errorf("of nil: %v", list)
	}
	if list := heap.Sort([]pair{}, byKey); len(list) != 0 {
		t.Errorf("of none: %v", list)
	}
}

func sorts(t *testing.T, name string, list []pair, less func(a, b pair) bool) {
	t.Helper()
	want := slices.Clone(list)
	slices.SortStableFunc(want, func(a, b pair) int {
		switch {
		case less == nil:
			return 0
		case less(a, b):
			return -1
		case less(b, a):
			return 1
		}
		return 0
	})
	if got := heap.Sort(list, less); !slices.Equal(got, want) {
		t.Fatalf("%s: %v of %v; want %v", name, got, list, want)
	}
}

// P2: a list that is handed in, and the memory behind it, is neither turned nor kept; what is answered is new, spare room too.
func TestSortIsACopy(t *testing.T) {
	memory := []int{5, 3, 4, 1, 2, 0}
	was := slices.Clone(memory)
	less := func(a, b int) bool { return a < b }
	for k := range len(memory) + 1 {
		got := heap.Sort(memory[:k], less)
		other := heap.Sort(memory[:k], less)
		clear(got[:cap(got)])
		if !slices.Equal(memory, was) || !slices.Equal(other, slices.Sorted(slices.Values(was[:k]))) {
			t.Errorf("of %d: turned, or shared: %v, %v", k, memory, other)
		}
	}
	got := heap.Sort(memory, less)
	clear(memory)
	if !slices.IsSorted(got) || got[5] != 5 {
		t.Errorf("kept: %v", got)
	}
}
