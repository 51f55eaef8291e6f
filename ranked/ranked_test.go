package ranked_test

import (
	"cmp"
	"iter"
	"math"
	"slices"
	"strconv"
	"testing"

	"sandtable/ranked"
)

// entry is a key, and what it has.
type entry[K cmp.Ordered, V any] struct {
	k K
	v V
}

// plain is what a map must do: a list in order, looked through from its beginning.
type plain[K cmp.Ordered, V comparable] []entry[K, V]

func (p plain[K, V]) rank(k K) int {
	less := 0
	for _, e := range p {
		if e.k < k {
			less++
		}
	}
	return less
}

func (p plain[K, V]) has(k K) bool {
	at := p.rank(k)
	return at < len(p) && p[at].k == k
}

func (p *plain[K, V]) put(k K, v V) bool {
	at, is := p.rank(k), p.has(k)
	if is {
		(*p)[at].v = v
	} else {
		*p = slices.Insert(*p, at, entry[K, V]{k, v})
	}
	return !is
}

func (p *plain[K, V]) drop(k K) bool {
	at, is := p.rank(k), p.has(k)
	if is {
		*p = slices.Delete(*p, at, at+1)
	}
	return is
}

// collect is all that is gone through.
func collect[K cmp.Ordered, V any](seq iter.Seq2[K, V]) []entry[K, V] {
	var list []entry[K, V]
	for k, v := range seq {
		list = append(list, entry[K, V]{k, v})
	}
	return list
}

// same holds that every call that only asks answers of m as of p, for these keys.
func same[K cmp.Ordered, V comparable](t *testing.T, name string, m *ranked.Map[K, V], p plain[K, V], keys []K) {
	t.Helper()
	if m.Len() != len(p) {
		t.Fatalf("%s: Len %d; want %d", name, m.Len(), len(p))
	}
	for i := -2; i < len(p)+3; i++ {
		var want entry[K, V]
		is := i >= 0 && i < len(p)
		if is {
			want = p[i]
		}
		if k, v, ok := m.At(i); k != want.k || v != want.v || ok != is {
			t.Fatalf("%s: At(%d): %v, %v, %v; want %v, %v", name, i, k, v, ok, want, is)
		}
	}
	for _, k := range keys {
		var want V
		is, rank := p.has(k), p.rank(k)
		if is {
			want = p[rank].v
		}
		if v, ok := m.Get(k); v != want || ok != is {
			t.Fatalf("%s: Get(%v): %v, %v; want %v, %v", name, k, v, ok, want, is)
		}
		if n := m.Rank(k); n != rank {
			t.Fatalf("%s: Rank(%v): %d; want %d", name, k, n, rank)
		}
		if got := collect(m.From(k)); !slices.Equal(got, p[rank:]) {
			t.Fatalf("%s: From(%v): %v; want %v", name, k, got, p[rank:])
		}
	}
	if got := collect(m.All()); !slices.Equal(got, p) {
		t.Fatalf("%s: All: %v; want %v", name, got, p)
	}
}

// both is a map, and what it must do.
type both struct {
	m *ranked.Map[int, int]
	p plain[int, int]
}

func start() *both {
	return &both{m: &ranked.Map[int, int]{}}
}

func (b *both) put(t *testing.T, name string, k, v int) {
	t.Helper()
	if is, want := b.m.Put(k, v), b.p.put(k, v); is != want {
		t.Fatalf("%s: Put(%d, %d): %v", name, k, v, is)
	}
}

func (b *both) drop(t *testing.T, name string, k int) {
	t.Helper()
	if is, want := b.m.Drop(k), b.p.drop(k); is != want {
		t.Fatalf("%s: Drop(%d): %v", name, k, is)
	}
}

// upTo is the numbers from low on, up to high.
func upTo(low, high int) []int {
	var list []int
	for k := low; k <= high; k++ {
		list = append(list, k)
	}
	return list
}

// P7.1: a map that has no keys, new, cloned, and emptied.
func TestEmpty(t *testing.T) {
	var m ranked.Map[string, []int]
	for _, c := range []*ranked.Map[string, []int]{&m, m.Clone(), {}} {
		for range 2 {
			if c.Len() != 0 || c.Drop("") || c.Drop("a") || c.Rank("") != 0 || c.Rank("\xff") != 0 {
				t.Error("keys of nothing")
			}
			if v, ok := c.Get(""); v != nil || ok {
				t.Error("Get of nothing")
			}
			for _, i := range []int{0, -1, 1, math.MaxInt, math.MinInt} {
				if k, v, ok := c.At(i); k != "" || v != nil || ok {
					t.Errorf("At(%d) of nothing", i)
				}
			}
			for range c.All() {
				t.Error("All of nothing")
			}
			for range c.From("") {
				t.Error("From of nothing")
			}
			if !c.Put("", []int{1}) || c.Len() != 1 || !c.Drop("") {
				t.Error("put and dropped")
			}
		}
	}
}

// P7.1: every order of six calls: puts and drops of three keys.
func TestEveryOrderOfCalls(t *testing.T) {
	keys := upTo(-1, 3)
	for n := range 6 * 6 * 6 * 6 * 6 * 6 {
		b := start()
		name := "calls " + strconv.FormatInt(int64(n), 6)
		for i, left := 0, n; i < 6; i, left = i+1, left/6 {
			if call := left % 6; call < 3 {
				b.put(t, name, call, i)
			} else {
				b.drop(t, name, call-3)
			}
		}
		same(t, name, b.m, b.p, keys)
	}
}

// P7.1, P7.2: keys put in and let go in every order of five.
func TestEveryOrderOfKeys(t *testing.T) {
	var orders [][]int
	var more func(order []int)
	more = func(order []int) {
		if len(order) == 5 {
			orders = append(orders, slices.Clone(order))
			return
		}
		for k := range 5 {
			if !slices.Contains(order, k) {
				more(append(order, k))
			}
		}
	}
	more(nil)
	for _, in := range orders {
		for _, out := range orders {
			b := start()
			for _, k := range in {
				b.put(t, "in", k, 10*k)
			}
			for _, k := range out {
				b.drop(t, "out", k)
				if got := collect(b.m.All()); !slices.Equal(got, b.p) {
					t.Fatalf("in %v, out %v, behind %d: %v; want %v", in, out, k, got, b.p)
				}
			}
		}
	}
}

// P7.1, P7.2: many calls by a short rule, over few keys and many.
func TestMany(t *testing.T) {
	for _, most := range []int{5, 40, 300} {
		b := start()
		state := uint32(most)
		for i := range 4000 {
			state = state*1664525 + 1013904223
			k := int(state>>8) % most
			name := strconv.Itoa(i) + " of " + strconv.Itoa(most)
			// At first more is put than dropped, then as much.
			if state>>30 == 0 || state>>30 == 1 && i > 2000 {
				b.drop(t, name, k)
			} else {
				b.put(t, name, k, i)
			}
			if i%97 == 0 {
				same(t, name, b.m, b.p, upTo(-1, most))
			}
		}
		for _, e := range slices.Clone(b.p) {
			b.drop(t, "all", e.k)
		}
		same(t, "all gone", b.m, b.p, upTo(-1, most))
	}
}

// P7.1: so many that each call must do with a few of them, in orders that lean to one side.
func TestGreat(t *testing.T) {
	const n = 20000
	for name, key := range map[string]func(i int) int{
		"rising":  func(i int) int { return i },
		"falling": func(i int) int { return n - 1 - i },
		"inwards": func(i int) int { return i/2 + i%2*(n-1-i/2*2) },
		"mixed":   func(i int) int { return i * 7919 % n },
	} {
		var m ranked.Map[int, int]
		for i := range n {
			if !m.Put(key(i), i) {
				t.Fatalf("%s: %d twice", name, key(i))
			}
		}
		for i := range n {
			if v, ok := m.Get(key(i)); v != i || !ok || m.Rank(key(i)) != key(i) {
				t.Fatalf("%s: %d has %d, %v", name, key(i), v, ok)
			}
		}
		for i := range n {
			if !m.Drop(key(i)) || m.Len() != n-1-i {
				t.Fatalf("%s: %d not dropped", name, key(i))
			}
		}
	}
}

type word string
type small int8

// P7.1, P7.2: keys of each kind: texts byte by byte, the ends of numbers, what isn't finite.
func TestKeys(t *testing.T) {
	kinds(t, "string", []string{"b", "", "ab", "a", "\xff", "a\x00", "Z", "é", "aa", "~"})
	kinds(t, "word", []word{"q", "", "qq"})
	kinds(t, "int64", []int64{0, math.MaxInt64, math.MinInt64, -1, 1, math.MaxInt64 - 1})
	kinds(t, "uint64", []uint64{math.MaxUint64, 0, 1 << 63, 1<<63 - 1, 1})
	kinds(t, "small", []small{-128, 127, 0, -1, 5})
	kinds(t, "byte", []byte{255, 0, 128, 127})
	kinds(t, "float64", []float64{0, math.Inf(1), math.Inf(-1), math.SmallestNonzeroFloat64, -0.5, math.MaxFloat64, -math.MaxFloat64})
}

func kinds[K cmp.Ordered](t *testing.T, name string, keys []K) {
	var m ranked.Map[K, int]
	var p plain[K, int]
	for round := range 2 {
		for i, k := range keys {
			if m.Put(k, 10*round+i) != p.put(k, 10*round+i) {
				t.Errorf("%s: Put(%v)", name, k)
			}
			same(t, name, &m, p, keys)
		}
	}
	for _, k := range keys {
		if !m.Drop(k) || m.Drop(k) || !p.drop(k) {
			t.Errorf("%s: Drop(%v)", name, k)
		}
		same(t, name, &m, p, keys)
	}
}

// P7.1: either zero is the same key.
func TestZeroes(t *testing.T) {
	var m ranked.Map[float64, int]
	off := math.Copysign(0, -1)
	if !m.Put(off, 1) || m.Put(0, 2) || m.Len() != 1 || m.Rank(0) != 0 || m.Rank(off) != 0 {
		t.Error("two zeroes")
	}
	if v, ok := m.Get(off); v != 2 || !ok || !m.Drop(off) {
		t.Errorf("%d, %v", v, ok)
	}
}

// P1: a float that is no number gets no promise of order, but every call ends.
func TestNoNumber(t *testing.T) {
	var m ranked.Map[float64, int]
	for i := range 50 {
		m.Put(math.NaN(), i)
		m.Put(float64(i%7), i)
		m.Drop(math.NaN())
		m.Rank(math.NaN())
		m.Get(math.NaN())
		m.Put(math.NaN(), i)
		for range m.From(math.NaN()) {
		}
		m.Drop(float64(i % 5))
	}
}

// P7.1: what a key has is replaced, by nothing too; a key that has nothing is there.
func TestReplaced(t *testing.T) {
	var m ranked.Map[string, *int]
	x := 7
	if !m.Put("a", nil) || m.Put("a", &x) || m.Len() != 1 {
		t.Error("a new key again")
	}
	if v, ok := m.Get("a"); v != &x || !ok {
		t.Error("not replaced")
	}
	if m.Put("a", nil) {
		t.Error("a new key again")
	}
	if v, ok := m.Get("a"); v != nil || !ok {
		t.Error("nothing isn't there")
	}
	if k, v, ok := m.At(0); k != "a" || v != nil || !ok {
		t.Error("At")
	}
}

// filled is a map of the numbers from 0 on, each with ten times itself.
func filled(n int) *both {
	b := start()
	for k := range n {
		b.m.Put(k, 10*k)
		b.p.put(k, 10*k)
	}
	return b
}

// P7.1: what is gone through is what there is when All or From is called, whatever is put or dropped behind that, as often as it is gone through.
func TestGoneThroughAsItWas(t *testing.T) {
	for n := range 12 {
		b := filled(n)
		all, from := b.m.All(), b.m.From(n/2)
		was := slices.Clone(b.p)
		hold := func(name string) {
			t.Helper()
			if got := collect(all); !slices.Equal(got, was) {
				t.Errorf("%d, %s: All: %v", n, name, got)
			}
			if got := collect(from); !slices.Equal(got, was[n/2:]) {
				t.Errorf("%d, %s: From: %v", n, name, got)
			}
		}
		hold("at once")
		for k := range n {
			b.put(t, "replaced", k, -1)
		}
		hold("replaced")
		for k := range n {
			b.put(t, "more", -1-k, 5)
			b.put(t, "more", n+k, 5)
		}
		hold("more")
		for k := -n; k < n; k++ {
			b.drop(t, "fewer", k)
		}
		hold("fewer")
		same(t, "the map itself", b.m, b.p, upTo(-n-1, 2*n))
	}
}

// P7.1: what is put and dropped on the way isn't gone through, and is done.
func TestTurnedOnTheWay(t *testing.T) {
	b := filled(20)
	var got []int
	for k, v := range b.m.All() {
		if v != 10*k {
			t.Errorf("%d has %d", k, v)
		}
		got = append(got, k)
		b.drop(t, "ahead", k+1)
		b.put(t, "behind", k+100, 1)
		b.put(t, "replaced", k+2, 1)
	}
	if !slices.Equal(got, upTo(0, 19)) {
		t.Errorf("%v", got)
	}
	same(t, "behind it", b.m, b.p, upTo(-1, 120))
}

// P7.1: what is gone through is stopped at any place, asked no more, and begins again.
func TestStopped(t *testing.T) {
	const n = 30
	b := filled(n)
	for first := range n + 1 {
		stopped(t, b.m.From(first), first, n-first)
	}
	stopped(t, b.m.All(), 0, n)
}

// stopped stops what goes through so many numbers from the first on at each place.
func stopped(t *testing.T, seq iter.Seq2[int, int], first, n int) {
	t.Helper()
	for most := 1; most <= n+1; most++ {
		asked := 0
		seq(func(k, v int) bool {
			if k != first+asked || v != 10*k {
				t.Errorf("from %d: %d, %d", first, k, v)
			}
			asked++
			return asked < most
		})
		if asked != min(most, n) {
			t.Errorf("from %d, at most %d: %d", first, most, asked)
		}
	}
}

// P7.1: two that go through one map at once don't know of each other.
func TestWithinEachOther(t *testing.T) {
	b := filled(7)
	seq := b.m.All()
	n := 0
	for x := range seq {
		for y := range seq {
			if n != 7*x+y {
				t.Fatalf("%d, %d behind %d", x, y, n)
			}
			n++
		}
	}
	if n != 49 {
		t.Errorf("%d", n)
	}
}

// P7.1: a clone has the same, and is turned without the other.
func TestClone(t *testing.T) {
	for n := range 10 {
		b := filled(n)
		c := &both{b.m.Clone(), slices.Clone(b.p)}
		other := b.m.Clone()
		was := slices.Clone(b.p)
		same(t, "clone", c.m, c.p, upTo(-1, n))
		for k := range n {
			b.drop(t, "the one", k)
			c.put(t, "the other", k, 1)
			c.put(t, "the other", k+n, 1)
			same(t, "the one", b.m, b.p, upTo(-1, 2*n))
			same(t, "the other", c.m, c.p, upTo(-1, 2*n))
		}
		b.put(t, "the one", 3, 3)
		same(t, "the one", b.m, b.p, upTo(-1, 2*n))
		same(t, "the other", c.m, c.p, upTo(-1, 2*n))
		same(t, "untouched", other, was, upTo(-1, n))
	}
}

// P7.1: behind many calls each clone, and each All, of whichever call ahead still has what there was.
func TestEveryCallAheadStays(t *testing.T) {
	type version struct {
		clone *ranked.Map[int, int]
		all   iter.Seq2[int, int]
		was   plain[int, int]
	}
	for _, most := range []int{8, 30, 100} {
		var list []version
		b := start()
		state := uint32(most)
		for i := range 600 {
			list = append(list, version{b.m.Clone(), b.m.All(), slices.Clone(b.p)})
			state = state*1664525 + 1013904223
			if k := int(state>>8) % most; state>>30 < 2 {
				b.put(t, "put", k, i)
			} else {
				b.drop(t, "drop", k)
			}
		}
		for i, v := range list {
			name := "behind " + strconv.Itoa(i) + " of " + strconv.Itoa(most)
			same(t, name, v.clone, v.was, []int{-1, 0, most / 2, most})
			if got := collect(v.all); !slices.Equal(got, v.was) {
				t.Fatalf("%s: All: %v; want %v", name, got, v.was)
			}
		}
	}
}

// P7.2: keys rise, and the key at a rank has it, of whatever was put and dropped.
func TestRanksRise(t *testing.T) {
	var m ranked.Map[uint32, int]
	state := uint32(9)
	for i := range 2000 {
		state = state*1664525 + 1013904223
		m.Put(state>>4, i)
		if i%3 == 0 {
			k, _, _ := m.At(int(state>>8) % m.Len())
			m.Drop(k)
		}
	}
	rank := 0
	last := int64(-1)
	for k, v := range m.All() {
		at, w, ok := m.At(rank)
		if int64(k) <= last || at != k || w != v || !ok || m.Rank(k) != rank || m.Rank(k+1) != rank+1 {
			t.Errorf("%d at %d", k, rank)
		}
		last = int64(k)
		rank++
	}
	if rank != m.Len() {
		t.Errorf("%d of %d", rank, m.Len())
	}
}

// The chapter's example.
func TestExample(t *testing.T) {
	var m ranked.Map[int, string]
	m.Put(5, "five")
	m.Put(2, "two")
	if m.Rank(5) != 1 {
		t.Error(m.Rank(5))
	}
}
