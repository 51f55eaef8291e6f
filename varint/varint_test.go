package varint

import (
	"bytes"
	"encoding/binary"
	"math"
	"math/big"
	"slices"
	"testing"

	"sandtable/api"
)

// numbers are those around each power of two, and the ends of 64 bits.
func numbers() []uint64 {
	list := []uint64{0, 300, 1234567890123456789, math.MaxUint64, math.MaxUint64 - 1}
	for bit := range 64 {
		n := uint64(1) << bit
		list = append(list, n-1, n, n+1, n|0x55)
	}
	return list
}

// full is k bytes with the highest bit, and these behind them.
func full(k int, behind ...byte) []byte {
	return append(bytes.Repeat([]byte{0xFF}, k), behind...)
}

// P2.1: a number's bytes are as many as Len says, and as the library has them.
func TestPut(t *testing.T) {
	for _, n := range numbers() {
		b := Put(n)
		if want := binary.AppendUvarint(nil, n); !slices.Equal(b, want) {
			t.Errorf("Put(%d) = %x; want %x", n, b, want)
		}
		if k := Len(n); k != len(b) {
			t.Errorf("Len(%d) = %d, but %d bytes", n, k, len(b))
		}
	}
	for _, c := range []struct {
		n    uint64
		want []byte
	}{{0, []byte{0}}, {1, []byte{1}}, {127, []byte{0x7F}}, {128, []byte{0x80, 1}}, {300, []byte{0xAC, 2}}, {16383, []byte{0xFF, 0x7F}}, {16384, []byte{0x80, 0x80, 1}}, {1<<63 - 1, full(8, 0x7F)}, {1 << 63, append(bytes.Repeat([]byte{0x80}, 9), 1)}, {math.MaxUint64, full(9, 1)}} {
		if b := Put(c.n); !slices.Equal(b, c.want) || Len(c.n) != len(c.want) {
			t.Errorf("Put(%d) = %x, Len %d; want %x", c.n, b, Len(c.n), c.want)
		}
	}
}

// P2.1: the edges: numbers of nine and of ten bytes, too short, too great, not canonical; what stands behind doesn't matter.
func TestGetEdges(t *testing.T) {
	for _, c := range []struct {
		b    []byte
		n    uint64
		size int
		e    api.Errno
	}{
		{nil, 0, 0, api.ErrShort},
		{[]byte{}, 0, 0, api.ErrShort},
		{[]byte{0x80}, 0, 0, api.ErrShort},
		{full(1), 0, 0, api.ErrShort},
		{full(9), 0, 0, api.ErrShort},
		{[]byte{0}, 0, 1, api.OK},
		{[]byte{0, 0}, 0, 1, api.OK},
		{[]byte{0x7F, 0xFF}, 127, 1, api.OK},
		{[]byte{1, 0, 0, 0, 0, 0, 0, 0, 0, 2}, 1, 1, api.OK},
		{[]byte{0xAC, 2}, 300, 2, api.OK},
		{[]byte{0xAC, 2, 0x80, 0}, 300, 2, api.OK},
		{[]byte{0x80, 0}, 0, 0, api.ErrForm},
		{[]byte{0xAC, 0}, 0, 0, api.ErrForm},
		{[]byte{0xAC, 0, 0xFF}, 0, 0, api.ErrForm},
		{[]byte{0x80, 0x80, 0}, 0, 0, api.ErrForm},
		{[]byte{0x80, 0x80, 1}, 16384, 3, api.OK},
		{full(8, 0x7F), 1<<63 - 1, 9, api.OK},
		{full(8, 0), 0, 0, api.ErrForm},
		{full(8, 0x7F, 0xFF), 1<<63 - 1, 9, api.OK},
		{full(9, 0), 0, 0, api.ErrForm},
		{full(9, 1), math.MaxUint64, 10, api.OK},
		{full(9, 1, 0xFF, 0xFF), math.MaxUint64, 10, api.OK},
		{full(9, 2), 0, 0, api.ErrRange},
		{full(9, 0x7F), 0, 0, api.ErrRange},
		{full(9, 0x80), 0, 0, api.ErrRange},
		{full(9, 0x81), 0, 0, api.ErrRange},
		{full(9, 0x80, 0), 0, 0, api.ErrRange},
		{full(10), 0, 0, api.ErrRange},
		{full(11), 0, 0, api.ErrRange},
		{full(10, 1), 0, 0, api.ErrRange},
		{append(bytes.Repeat([]byte{0x80}, 9), 1), 1 << 63, 10, api.OK},
		{append(bytes.Repeat([]byte{0x80}, 9), 0), 0, 0, api.ErrForm},
		{append(bytes.Repeat([]byte{0x80}, 9), 2), 0, 0, api.ErrRange},
		{bytes.Repeat([]byte{0x80}, 9), 0, 0, api.ErrShort},
		{bytes.Repeat([]byte{0x80}, 1000), 0, 0, api.ErrRange},
	} {
		if n, size, e := Get(c.b); n != c.n || size != c.size || e != c.e {
			t.Errorf("Get(%x) = %d, %d, %d; want %d, %d, %d", c.b, n, size, e, c.n, c.size, c.e)
		}
	}
}

// told is Get by the chapter's words: where the number ends first, then what may be wrong with it, in order.
func told(b []byte) (uint64, int, api.Errno) {
	last := slices.IndexFunc(b, func(c byte) bool { return c < 0x80 })
	if last < 0 && len(b) < 10 {
		return 0, 0, api.ErrShort
	}
	if last < 0 || last > 9 || last == 9 && b[9] > 1 {
		return 0, 0, api.ErrRange
	}
	if last > 0 && b[last] == 0 {
		return 0, 0, api.ErrForm
	}
	n := new(big.Int)
	for _, c := range slices.Backward(b[:last+1]) {
		n.Or(n.Lsh(n, 7), big.NewInt(int64(c&0x7F)))
	}
	return n.Uint64(), last + 1, api.OK
}

// hold holds Get of b against told, and, where b is read, what is put against b (P2.2).
func hold(t *testing.T, b []byte) {
	t.Helper()
	n, size, e := Get(b)
	if wn, ws, we := told(b); n != wn || size != ws || e != we {
		t.Fatalf("Get(%x) = %d, %d, %d; want %d, %d, %d", b, n, size, e, wn, ws, we)
	}
	if e == api.OK && !slices.Equal(Put(n), b[:size]) {
		t.Fatalf("Put(%d) = %x; got of %x", n, Put(n), b)
	}
}

// P2.1, P2.2: all bytes, of each place's kinds of bytes, up to twelve long; what is got, and put, is these bytes again.
func TestGetOfAllBytes(t *testing.T) {
	for a := range 256 {
		hold(t, []byte{byte(a)})
		for b := range 256 {
			hold(t, []byte{byte(a), byte(b)})
			for k := range 11 {
				hold(t, full(k, byte(a), byte(b)))
				hold(t, append(bytes.Repeat([]byte{0x80}, k), byte(a), byte(b)))
			}
		}
	}
	kinds := []byte{0, 1, 2, 0x7F, 0x80, 0xFF}
	list := [][]byte{nil}
	for range 6 {
		var longer [][]byte
		for _, b := range list {
			hold(t, b)
			for _, c := range kinds {
				longer = append(longer, append(bytes.Clone(b), c))
			}
		}
		list = longer
	}
}

// P2.2: what is put is got, whatever stands behind.
func TestPutIsGot(t *testing.T) {
	for _, n := range numbers() {
		for _, behind := range [][]byte{nil, {0}, {0x55}, {0x80}, {0xFF}, full(12), {0, 0, 0, 0, 0, 0, 0, 0, 0, 0, 0}} {
			b := append(Put(n), behind...)
			if got, size, e := Get(b); got != n || size != Len(n) || e != api.OK {
				t.Errorf("Get(%x) = %d, %d, %d; put was %d", b, got, size, e, n)
			}
		}
	}
}

// P2.2: no number of two bytes or more is got without its last byte.
func TestPutCutOff(t *testing.T) {
	for _, n := range numbers() {
		b := Put(n)
		for k := range b {
			if got, size, e := Get(b[:k]); got != 0 || size != 0 || e != api.ErrShort {
				t.Errorf("Get(%x) = %d, %d, %d", b[:k], got, size, e)
			}
		}
	}
}

// P2.1: folding, by its words, and back.
func TestFold(t *testing.T) {
	for _, u := range numbers() {
		n := int64(u)
		want := new(big.Int).Lsh(new(big.Int).Abs(big.NewInt(n)), 1)
		if n < 0 {
			want.Sub(want, big.NewInt(1))
		}
		f := Fold(n)
		if new(big.Int).SetUint64(f).Cmp(want) != 0 {
			t.Errorf("Fold(%d) = %d; want %v", n, f, want)
		}
		if Unfold(f) != n {
			t.Errorf("Unfold(%d) = %d; want %d", f, Unfold(f), n)
		}
		if Fold(Unfold(u)) != u {
			t.Errorf("Fold(Unfold(%d)) = %d", u, Fold(Unfold(u)))
		}
	}
	for _, c := range []struct {
		n int64
		f uint64
	}{{0, 0}, {-1, 1}, {1, 2}, {-2, 3}, {2, 4}, {math.MaxInt64, math.MaxUint64 - 1}, {math.MinInt64, math.MaxUint64}, {math.MinInt64 + 1, math.MaxUint64 - 2}} {
		if Fold(c.n) != c.f || Unfold(c.f) != c.n {
			t.Errorf("Fold(%d) = %d, Unfold(%d) = %d", c.n, Fold(c.n), c.f, Unfold(c.f))
		}
	}
}

type placed struct {
	at int
	n  uint64
}

func gather(b []byte) []placed {
	var list []placed
	for at, n := range All(b) {
		list = append(list, placed{at, n})
	}
	return list
}

// P2.1: numbers with their places, until one has an error, or nothing is left.
func TestAll(t *testing.T) {
	for _, c := range []struct {
		b    []byte
		want []placed
	}{
		{nil, nil},
		{[]byte{}, nil},
		{[]byte{0}, []placed{{0, 0}}},
		{[]byte{0, 0, 0}, []placed{{0, 0}, {1, 0}, {2, 0}}},
		{[]byte{1, 0xAC, 2, 7}, []placed{{0, 1}, {1, 300}, {3, 7}}},
		{[]byte{1, 0xAC, 2, 7, 0x80}, []placed{{0, 1}, {1, 300}, {3, 7}}},
		{[]byte{1, 0x80, 0, 7}, []placed{{0, 1}}},
		{[]byte{0x80, 0, 7}, nil},
		{append([]byte{9}, full(9, 2, 3)...), []placed{{0, 9}}},
		{append(full(9, 1), 5), []placed{{0, math.MaxUint64}, {10, 5}}},
		{full(9), nil},
	} {
		if list := gather(c.b); !slices.Equal(list, c.want) {
			t.Errorf("All(%x): %v; want %v", c.b, list, c.want)
		}
	}
}

// P2.1, P2.2: all numbers put one behind the other are gone through.
func TestAllOfWhatIsPut(t *testing.T) {
	var b []byte
	var want []placed
	for _, n := range numbers() {
		want = append(want, placed{len(b), n})
		b = append(b, Put(n)...)
	}
	if list := gather(b); !slices.Equal(list, want) {
		t.Errorf("%v; want %v", list, want)
	}
}

// P2.1: what is gone through may be gone through again, within itself too, and stopped at any place.
func TestAllAgain(t *testing.T) {
	seq := All([]byte{1, 0xAC, 2, 7})
	want := []placed{{0, 1}, {1, 300}, {3, 7}}
	for stop := range 4 {
		var list []placed
		for at, n := range seq {
			if len(list) == stop {
				break
			}
			list = append(list, placed{at, n})
		}
		if !slices.Equal(list, want[:stop]) {
			t.Errorf("stopped at %d: %v", stop, list)
		}
	}
	rounds := 0
	for range seq {
		for range seq {
			rounds++
		}
	}
	if rounds != 9 {
		t.Errorf("%d rounds within rounds", rounds)
	}
}

// P2: what is handed in is neither turned nor kept: it may be written over behind the call, and on the way.
func TestAllKeepsNothing(t *testing.T) {
	b := []byte{1, 0xAC, 2, 7}
	want := gather(b)
	seq := All(b)
	for i := range b {
		b[i] = 0x80
	}
	var list []placed
	for at, n := range seq {
		list = append(list, placed{at, n})
	}
	if !slices.Equal(list, want) {
		t.Errorf("written over behind the call: %v", list)
	}
	b = []byte{1, 0xAC, 2, 7}
	list = nil
	for at, n := range All(b) {
		clear(b)
		list = append(list, placed{at, n})
	}
	if !slices.Equal(list, want) {
		t.Errorf("written over on the way: %v", list)
	}
}

// P2: neither bytes that are handed in nor the memory behind them are turned.
func TestBytesAreLeft(t *testing.T) {
	memory := append(full(9, 1, 0xAC, 2, 0x80), 9, 9)
	was := bytes.Clone(memory)
	for k := range memory {
		Get(memory[:k])
		gather(memory[:k])
	}
	if !slices.Equal(memory, was) {
		t.Errorf("turned: %x", memory)
	}
}

// P2: what is answered is new memory, spare room too.
func TestPutIsNew(t *testing.T) {
	for _, n := range numbers() {
		b := Put(n)
		was := bytes.Clone(b)
		other := Put(n)
		clear(other[:cap(other)])
		if !slices.Equal(b, was) || !slices.Equal(Put(n), was) {
			t.Errorf("Put(%d) shares memory", n)
		}
	}
}
