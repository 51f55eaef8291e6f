package pool_test

import (
	"encoding/binary"
	"fmt"
	"math"
	"slices"
	"strings"
	"testing"

	"sandtable/api"
	"sandtable/pool"
	"sandtable/sample"
	"sandtable/wire"
)

// kinds are names of each kind: none, ones that begin as others do, bytes that are no letters, and as long as one may be that is read.
func kinds() []string {
	return []string{"", "a", "b", "ab", "a\x00", "\xff", "\u00e9", "A", strings.Repeat("z", 64)}
}

// lists are all lists of up to three names of each kind.
func lists() [][]string {
	var all [][]string
	for n := range 4 {
		for _, places := range sample.Lists(n, 0, len(kinds())-1) {
			var names []string
			for _, i := range places {
				names = append(names, kinds()[i])
			}
			all = append(all, names)
		}
	}
	return all
}

// of is a pool of names.
func of(names ...string) *pool.Pool {
	return pool.Make(slices.Values(names))
}

// plain is the names that a pool of some must have, in order.
func plain(names []string) []string {
	names = slices.Clone(names)
	slices.Sort(names)
	return slices.Compact(names)
}

// bytesOf is what must be written of names that stand in order.
func bytesOf(names []string) string {
	b := binary.AppendUvarint(nil, uint64(len(names)))
	for _, s := range names {
		b = append(binary.AppendUvarint(b, uint64(len(s))), s...)
	}
	return string(b)
}

func written(p *pool.Pool) string {
	var w wire.Writer
	p.Write(&w)
	return string(w.Done())
}

// brief is names as they are told of, without the last ones of many.
func brief(names []string) string {
	return fmt.Sprintf("%d: %.80q", len(names), names[:min(len(names), 20)])
}

// has holds that a pool has these names and no others: all its calls answer so.
func has(t *testing.T, p *pool.Pool, want []string) {
	t.Helper()
	if p.Len() != len(want) {
		t.Fatalf("Len %d; want %s", p.Len(), brief(want))
	}
	var pairs []sample.Pair[int, string]
	for i, s := range want {
		if got, ok := p.At(i); got != s || !ok {
			t.Fatalf("At(%d): %q, %v; want %s", i, got, ok, brief(want))
		}
		if at, ok := p.Index(s); at != i || !ok {
			t.Fatalf("Index(%q): %d, %v; want %s", s, at, ok, brief(want))
		}
		pairs = append(pairs, sample.Pair[int, string]{A: i, B: s})
	}
	for _, i := range []int{-1, len(want), len(want) + 1, -1 - len(want), 1 << 32, -1 << 32, math.MaxInt, math.MinInt} {
		if got, ok := p.At(i); got != "" || ok {
			t.Fatalf("At(%d): %q, %v; want %s", i, got, ok, brief(want))
		}
	}
	for _, s := range append(kinds(), "\x00", "aa", "ac", "b\x00", "c", "z", strings.Repeat("z", 63), strings.Repeat("z", 65)) {
		if at, ok := p.Index(s); at != max(slices.Index(want, s), 0) || ok != slices.Contains(want, s) {
			t.Fatalf("Index(%q): %d, %v; want %s", s, at, ok, brief(want))
		}
	}
	// Within itself it is gone through as often as there are names: of many that takes too long.
	if len(want) < 100 && !sample.Gone(sample.Pairs(p.All()), pairs) || !slices.Equal(slices.Collect(sample.Pairs(p.All())), pairs) {
		t.Fatalf("All isn't %s", brief(want))
	}
	if got := written(p); got != bytesOf(want) {
		t.Fatalf("%.200x; want %.200x", got, bytesOf(want))
	}
}

// P21.1: pools, written out: the chapter's first.
func TestWrittenOut(t *testing.T) {
	for _, c := range []struct{ names, want []string }{
		{[]string{"b", "a", "b"}, []string{"a", "b"}},
		{nil, nil},
		{[]string{""}, []string{""}},
		{[]string{"", "", ""}, []string{""}},
		{[]string{"a", "", "a"}, []string{"", "a"}},
		{[]string{"b", "ab", "a", "", "B"}, []string{"", "B", "a", "ab", "b"}},
		{[]string{"\xff", "\u00e9", "z", "\x80", "a\x00", "a"}, []string{"a", "a\x00", "z", "\x80", "\u00e9", "\xff"}},
		{[]string{"10", "9", "1", "09"}, []string{"09", "1", "10", "9"}},
	} {
		has(t, of(c.names...), c.want)
	}
}

// P21.1: of all lists of up to three names of each kind.
func TestPool(t *testing.T) {
	for _, names := range lists() {
		has(t, of(names...), plain(names))
	}
}

// P21.1: of no names that come there are none, as in the pool that nothing made.
func TestNone(t *testing.T) {
	has(t, pool.Make(nil), nil)
	has(t, pool.Make(func(yield func(string) bool) {}), nil)
	has(t, &pool.Pool{}, nil)
}

// P21.1: all names that come, each once, however often they come, and however long they are; they are gone through once.
func TestMany(t *testing.T) {
	s := sample.Numbers(5)
	names := s.Names(5000)
	for i := range 3000 {
		names = append(names, names[i*7%5000])
	}
	names = append(names, strings.Repeat("y", 1<<20), strings.Repeat("y", 1<<20+1), strings.Repeat("z", 65))
	rounds := 0
	p := pool.Make(func(yield func(string) bool) {
		rounds++
		slices.Values(names)(yield)
	})
	has(t, p, plain(names))
	if rounds != 1 || p.Len() != 5003 {
		t.Errorf("gone through %d times, %d names", rounds, p.Len())
	}
}

// P2: what names come from isn't kept, and pools don't know of each other.
func TestNotKept(t *testing.T) {
	names := []string{"b", "a", "c"}
	seq := slices.Values(names)
	p := pool.Make(seq)
	all := p.All()
	names[0], names[1] = "x", "y"
	q := pool.Make(seq)
	has(t, p, []string{"a", "b", "c"})
	has(t, q, []string{"c", "x", "y"})
	if !sample.Gone(sample.Pairs(all), []sample.Pair[int, string]{{A: 0, B: "a"}, {A: 1, B: "b"}, {A: 2, B: "c"}}) {
		t.Error("All")
	}
}

// P21.1: no more is made of a pool's names than is asked for.
func TestNoMoreIsMade(t *testing.T) {
	s := sample.Numbers(1)
	p := of(s.Names(5000)...)
	made := testing.AllocsPerRun(5, func() {
		for range p.All() {
			break
		}
	})
	if made > 100 {
		t.Errorf("%v things made for one name", made)
	}
}

// P21.1: a pool is written behind what stands there, as often as it is asked for; to no writer, nothing.
func TestWrite(t *testing.T) {
	p := of("b", "a", strings.Repeat("z", 130))
	own := "\x03\x01a\x01b\x82\x01" + strings.Repeat("z", 130)
	var w wire.Writer
	w.Text("ahead")
	p.Write(&w)
	w.Fixed(1)
	p.Write(&w)
	of().Write(&w)
	if got := string(w.Done()); got != "\x05ahead"+own+"\x01\x00\x00\x00"+own+"\x00" {
		t.Errorf("%x", got)
	}
	p.Write(nil)
	has(t, p, []string{"a", "b", strings.Repeat("z", 130)})
}

// reads holds what is read of bytes, of at most so many names: behind whichever bytes, and whatever stands behind.
func reads(t *testing.T, b string, most int, want []string) {
	t.Helper()
	for _, ahead := range []string{"", "\x80", "\xac\x02ahead"} {
		for _, behind := range []string{"", "\x00", "\x01zz\xff"} {
			r := wire.Open([]byte(ahead + b + behind))
			r.Raw(len(ahead))
			p, f := pool.Read(r, most)
			if p == nil || f != (api.Fault{}) || r.Fault() != (api.Fault{}) || r.At() != len(ahead+b) {
				t.Fatalf("%.200x, at most %d: %v, %+v at %d", b, most, p != nil, f, r.At())
			}
			has(t, p, want)
			if got := string(r.Raw(len(behind))); got != behind {
				t.Fatalf("%.200x, at most %d: %x behind it", b, most, got)
			}
		}
	}
}

// fails holds that of bytes, of at most so many names, nothing is read, behind whichever bytes.
func fails(t *testing.T, b string, most int, want api.Fault) {
	t.Helper()
	for _, ahead := range []string{"", "\x80", "\xac\x02ahead"} {
		r := wire.Open([]byte(ahead + b))
		r.Raw(len(ahead))
		p, f := pool.Read(r, most)
		if p != nil || f != (api.Fault{E: want.E, At: len(ahead) + want.At}) {
			t.Fatalf("%.200x behind %x, at most %d: %v, %+v; want %+v", b, ahead, most, p != nil, f, want)
		}
	}
}

// P21.1, P21.2: what is written is read as it, if no more names are there than may be; of fewer nothing is read.
func TestWrittenIsRead(t *testing.T) {
	for _, names := range lists() {
		p := of(names...)
		b := written(p)
		for _, most := range []int{p.Len(), p.Len() + 1, math.MaxInt} {
			reads(t, b, most, plain(names))
		}
		for most := range p.Len() {
			fails(t, b, most, api.Fault{E: api.ErrLong})
		}
		// Below 0 no more may be there than at 0.
		for _, most := range []int{-1, math.MinInt} {
			if p.Len() == 0 {
				reads(t, b, most, nil)
			} else {
				fails(t, b, most, api.Fault{E: api.ErrLong})
			}
		}
	}
	s := sample.Numbers(2)
	names := s.Names(4000)
	reads(t, written(of(names...)), 4000, plain(names))
}

// P21.1: names that are longer than may be are in a pool, and written, but not read.
func TestLongNames(t *testing.T) {
	long := strings.Repeat("z", 65)
	reads(t, written(of("a", long[1:])), 9, []string{"a", long[1:]})
	fails(t, written(of("a", long)), 9, api.Fault{E: api.ErrLong, At: 3})
	fails(t, written(of(long)), 9, api.Fault{E: api.ErrLong, At: 1})
	fails(t, written(of("a", strings.Repeat("z", 300))), 9, api.Fault{E: api.ErrLong, At: 3})
}

// P21.1: faults, written out: the first that is met, and where its field begins.
func TestFaults(t *testing.T) {
	for _, c := range []struct {
		b    string
		most int
		f    api.Fault
	}{
		{"", 9, api.Fault{E: api.ErrShort}},
		{"\x80", 9, api.Fault{E: api.ErrShort}},
		{"\x80\x00", 9, api.Fault{E: api.ErrForm}},
		{"\x81\x00\x01a", 9, api.Fault{E: api.ErrForm}},
		{"\xff\xff\xff\xff\xff\xff\xff\xff\xff\x02", math.MaxInt, api.Fault{E: api.ErrRange}},
		{"\xff\xff\xff\xff\xff\xff\xff\xff\xff\x01", math.MaxInt, api.Fault{E: api.ErrLong}},
		{"\x03\x01a\x01b\x01c", 2, api.Fault{E: api.ErrLong}},
		{"\x03\x01b\x01a", 2, api.Fault{E: api.ErrLong}},
		// As many names as an int tells end with the bytes.
		{"\xff\xff\xff\xff\xff\xff\xff\xff\x7f", math.MaxInt, api.Fault{E: api.ErrShort, At: 9}},
		{"\xff\xff\xff\xff\xff\xff\xff\xff\x7f\x01a\x01b", math.MaxInt, api.Fault{E: api.ErrShort, At: 13}},
		{"\x02\x01a", 9, api.Fault{E: api.ErrShort, At: 3}},
		{"\x01\x02a", 9, api.Fault{E: api.ErrShort, At: 1}},
		{"\x01\x80", 9, api.Fault{E: api.ErrShort, At: 1}},
		{"\x01\x81\x00a", 9, api.Fault{E: api.ErrForm, At: 1}},
		{"\x01\xff\xff\xff\xff\xff\xff\xff\xff\xff\x02a", 9, api.Fault{E: api.ErrRange, At: 1}},
		{"\x01\x41" + strings.Repeat("a", 65), 9, api.Fault{E: api.ErrLong, At: 1}},
		{"\x01\x41", 9, api.Fault{E: api.ErrLong, At: 1}},
		{"\x01\x40" + strings.Repeat("a", 63), 9, api.Fault{E: api.ErrShort, At: 1}},
		{"\x02\x01b\x01a", 9, api.Fault{E: api.ErrOrder, At: 3}},
		{"\x02\x01a\x01a", 9, api.Fault{E: api.ErrOrder, At: 3}},
		{"\x02\x00\x00", 9, api.Fault{E: api.ErrOrder, At: 2}},
		{"\x02\x01a\x00", 9, api.Fault{E: api.ErrOrder, At: 3}},
		{"\x02\x02ab\x01a", 9, api.Fault{E: api.ErrOrder, At: 4}},
		{"\x02\x01\xff\x02\xc3\xa9", 9, api.Fault{E: api.ErrOrder, At: 3}},
		{"\x02\x02ab\x02aB", 9, api.Fault{E: api.ErrOrder, At: 4}},
		{"\x03\x01a\x01c\x01b", 9, api.Fault{E: api.ErrOrder, At: 5}},
		// A name is held against the one ahead, not against any other; and what is met first is told.
		{"\x03\x01b\x01a\x01c", 9, api.Fault{E: api.ErrOrder, At: 3}},
		{"\x03\x01b\x01a", 9, api.Fault{E: api.ErrOrder, At: 3}},
		{"\x04\x01b\x01a\x41", 9, api.Fault{E: api.ErrOrder, At: 3}},
		{"\x03\x01b\x41\x01a", 9, api.Fault{E: api.ErrLong, At: 3}},
		{"\x03\x01b\x02a", 9, api.Fault{E: api.ErrShort, At: 3}},
		{"\x03\x01b\x81\x00a", 9, api.Fault{E: api.ErrForm, At: 3}},
	} {
		fails(t, c.b, c.most, c.f)
	}
}

// told is what must be read of bytes below 128, by the chapter's words: the names, or a fault, and how many bytes they have.
func told(b string, most int) (names []string, f api.Fault, size int) {
	if b == "" {
		return nil, api.Fault{E: api.ErrShort}, 0
	}
	n, at := int(b[0]), 1
	if n > most {
		return nil, api.Fault{E: api.ErrLong}, 0
	}
	for len(names) < n {
		if at == len(b) {
			return nil, api.Fault{E: api.ErrShort, At: at}, 0
		}
		long := int(b[at])
		if long > 64 {
			return nil, api.Fault{E: api.ErrLong, At: at}, 0
		}
		if long > len(b)-at-1 {
			return nil, api.Fault{E: api.ErrShort, At: at}, 0
		}
		name := b[at+1 : at+1+long]
		if len(names) > 0 && strings.Compare(name, names[len(names)-1]) != 1 {
			return nil, api.Fault{E: api.ErrOrder, At: at}, 0
		}
		names, at = append(names, name), at+1+long
	}
	return names, api.Fault{}, at
}

// P21.1, P21.2: of all short bytes of a few kinds: what is read is what stands there, and, written, it is these bytes again.
func TestShortBytes(t *testing.T) {
	seen := map[api.Errno]int{}
	for _, b := range sample.Texts(6, "\x00", "\x01", "\x02", "\x03", "a", "\x40") {
		for _, most := range []int{3, 1} {
			want, fault, size := told(b, most)
			r := wire.Open([]byte(b))
			p, f := pool.Read(r, most)
			seen[fault.E]++
			if f != fault || (p == nil) != (fault.E != api.OK) {
				t.Fatalf("%x, at most %d: %v, %+v; want %q, %+v", b, most, p != nil, f, want, fault)
			}
			if fault.E != api.OK {
				continue
			}
			if got := written(p); r.At() != size || got != b[:size] || p.Len() != len(want) {
				t.Fatalf("%x, at most %d: %x at %d; want %q", b, most, got, r.At(), want)
			}
		}
	}
	for _, e := range []api.Errno{api.OK, api.ErrShort, api.ErrLong, api.ErrOrder} {
		if seen[e] < 100 {
			t.Errorf("%v", seen)
		}
	}
}

// P21.1: without its last bytes no pool is read.
func TestCutOff(t *testing.T) {
	names := []string{"", "a", "ab", "abc", strings.Repeat("z", 64)}
	b := written(of(names...))
	starts := []int{0, 1, 2, 4, 7, 11}
	for k := range len(b) {
		field, is := slices.BinarySearch(starts, k)
		if !is {
			field--
		}
		fails(t, b[:k], 9, api.Fault{E: api.ErrShort, At: starts[field]})
	}
}

// P21.1: a fault that the reader has already stays, and nothing is read.
func TestFaultAhead(t *testing.T) {
	for _, most := range []int{9, 0, -1} {
		r := wire.Open([]byte("\x09\x01\x01a"))
		r.Raw(1)
		r.Count(0)
		if p, f := pool.Read(r, most); p != nil || f != (api.Fault{E: api.ErrLong, At: 1}) || r.At() != 1 {
			t.Errorf("%v, %+v at %d", p != nil, f, r.At())
		}
	}
}

// P1: a reader that was never made has no bytes.
func TestNoReader(t *testing.T) {
	for _, most := range []int{9, 0, -1} {
		if p, f := pool.Read(nil, most); p != nil || f != (api.Fault{E: api.ErrShort}) {
			t.Errorf("%v, %+v", p != nil, f)
		}
	}
}

// P2: what is read hangs neither on the bytes behind the call, nor on what else is read.
func TestReadIsNotKept(t *testing.T) {
	b := []byte("\x02\x01a\x01b\x02\x01c\x01d")
	was := slices.Clone(b)
	r := wire.Open(b)
	p, _ := pool.Read(r, 2)
	if !slices.Equal(b, was) {
		t.Errorf("turned: %x", b)
	}
	clear(b)
	q, f := pool.Read(r, 2)
	r.End()
	if f != (api.Fault{}) || r.Fault() != (api.Fault{}) {
		t.Fatalf("%+v, %+v", f, r.Fault())
	}
	has(t, p, []string{"a", "b"})
	has(t, q, []string{"c", "d"})
}
