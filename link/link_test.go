package link_test

import (
	"bytes"
	"fmt"
	"math"
	"reflect"
	"slices"
	"testing"

	"sandtable/api"
	"sandtable/canon"
	"sandtable/copies"
	"sandtable/link"
	"sandtable/model"
	"sandtable/sample"
	"sandtable/section"
	"sandtable/split"
)

// right are right models of version 3, of all kinds and in no order.
func right() []api.Model {
	all := []api.Model{{Version: 3}, sample.Model()}
	for s := range sample.Numbers(200) {
		all = append(all, s.Model(3, s.Next(9), s.Next(12), s.Next(9)))
	}
	s := sample.Numbers(1)
	return append(all, s.Model(3, 40, 150, 90))
}

// fragments are those of a right model.
func fragments(m api.Model, part []int, k int) []split.Fragment {
	fs, f := split.Split(m, part, k)
	if f != (api.Fault{}) {
		panic(f)
	}
	return fs
}

// apart is the fragments of a model, each process in one of its own.
func apart(m api.Model) []split.Fragment {
	part := make([]int, len(m.Procs))
	for i := range part {
		part[i] = i
	}
	return fragments(m, part, len(part))
}

// content is what a fragment has of a model, its lists the fragment's own.
func content(f split.Fragment) api.Model {
	return api.Model{Version: 3, Procs: f.Procs, Links: f.Links, Events: f.Events}
}

// with is a fragment with what another model has.
func with(f split.Fragment, m api.Model) split.Fragment {
	f.Procs, f.Links, f.Events = m.Procs, m.Links, m.Events
	return f
}

// own is a copy of fragments, to the last list.
func own(fs []split.Fragment) []split.Fragment {
	var all []split.Fragment
	for _, f := range fs {
		f = with(f, copies.Model(content(f)))
		f.Imports, f.Exports = slices.Clone(f.Imports), slices.Clone(f.Exports)
		all = append(all, f)
	}
	return all
}

// whole is all that fragments have, laid down, right or not.
func whole(fs []split.Fragment) api.Model {
	m := api.Model{Version: 3}
	for _, f := range fs {
		m.Procs = append(m.Procs, f.Procs...)
		m.Links = append(m.Links, f.Links...)
		m.Events = append(m.Events, f.Events...)
	}
	return canon.Canon(m)
}

// heads is what must be told of fragments' heads, rule by rule.
func heads(fs []split.Fragment) api.Errno {
	if len(fs) == 0 {
		return 61
	}
	for _, f := range fs {
		if f.Count != len(fs) {
			return 61
		}
	}
	for _, f := range fs {
		if f.Set != fs[0].Set {
			return 60
		}
	}
	for _, f := range fs {
		if f.Index < 0 || f.Index > f.Count-1 {
			return 23
		}
	}
	at := map[int]int{}
	for _, f := range fs {
		if at[f.Index]++; at[f.Index] > 1 {
			return 5
		}
	}
	return 0
}

// linked is what Link must answer of fragments: the model whose fragments they are, or why there is none.
func linked(fs []split.Fragment) (api.Model, api.Errno) {
	if e := heads(fs); e != 0 {
		return api.Model{}, e
	}
	m := whole(fs)
	if model.Check(m) != (api.Fault{}) {
		return api.Model{}, 62
	}
	part := make([]int, len(m.Procs))
	for _, f := range fs {
		for _, p := range f.Procs {
			part[model.Proc(m, p.Name)] = f.Index
		}
	}
	all, fault := split.Split(m, part, len(fs))
	if fault != (api.Fault{}) {
		return api.Model{}, 62
	}
	for _, f := range fs {
		g := all[f.Index]
		if g.Set != f.Set || fmt.Sprint(g.Procs, g.Links, g.Events) != fmt.Sprint(f.Procs, f.Links, f.Events) || fmt.Sprintf("%q %q", g.Imports, g.Exports) != fmt.Sprintf("%q %q", f.Imports, f.Exports) {
			return api.Model{}, 62
		}
	}
	return m, 0
}

// held holds what Link answers.
func held(t *testing.T, fs []split.Fragment) api.Errno {
	t.Helper()
	m, e := link.Link(fs)
	want, fault := linked(fs)
	if e != fault || !canon.Same(m, want) || e != api.OK && (m.Procs != nil || m.Links != nil || m.Events != nil) {
		t.Fatalf("%#v: %#v, %d; want %#v, %d", fs, m, e, want, fault)
	}
	return e
}

// mixed is a list in another order.
func mixed[T any](s *sample.Numbers, list []T) []T {
	list = slices.Clone(list)
	for i := len(list) - 1; i > 0; i-- {
		at := s.Next(i + 1)
		list[i], list[at] = list[at], list[i]
	}
	return list
}

// P25.2: what is split is linked again, laid down, in whichever order.
func TestLink(t *testing.T) {
	for i, m := range right() {
		s := sample.Numbers(i)
		want := canon.Canon(m)
		for k := 1; k < 7; k++ {
			part := make([]int, len(m.Procs))
			for at := range part {
				part[at] = s.Next(k)
			}
			fs := fragments(m, part, k)
			for range 3 {
				got, e := link.Link(fs)
				if e != api.OK || !canon.Same(got, want) {
					t.Fatalf("%#v, %v: %#v, %d", m, part, got, e)
				}
				fs = mixed(&s, fs)
			}
			slices.Reverse(fs)
			held(t, fs)
		}
	}
	for _, part := range sample.Lists(3, 0, 3) {
		fs := fragments(sample.Model(), part, 4)
		for _, order := range sample.Lists(4, 0, 3) {
			list := []split.Fragment{fs[order[0]], fs[order[1]], fs[order[2]], fs[order[3]]}
			slices.Sort(order)
			want := api.ErrTwice
			if slices.Equal(order, []int{0, 1, 2, 3}) {
				want = api.OK
			}
			if e := held(t, list); e != want {
				t.Fatalf("%v: %d; want %d", order, e, want)
			}
		}
	}
}

// P25.2: without one, with one twice, or with another set's, nothing is linked.
func TestNotAll(t *testing.T) {
	other := sample.Model()
	other.Events[0].Value++
	for _, part := range sample.Lists(3, 0, 2) {
		fs, others := fragments(sample.Model(), part, 3), fragments(other, part, 3)
		for i := range fs {
			if e := held(t, slices.Delete(slices.Clone(fs), i, i+1)); e != api.ErrCount {
				t.Errorf("%v, without %d: %d", part, i, e)
			}
			if e := held(t, append(slices.Clone(fs), fs[i])); e != api.ErrCount {
				t.Errorf("%v, %d once more: %d", part, i, e)
			}
			if e := held(t, append(slices.Clone(fs), others[i])); e != api.ErrCount {
				t.Errorf("%v, another's %d besides: %d", part, i, e)
			}
			twice := slices.Clone(fs)
			twice[i] = fs[(i+1)%3]
			if e := held(t, twice); e != api.ErrTwice {
				t.Errorf("%v, twice but for %d: %d", part, i, e)
			}
			another := slices.Clone(fs)
			another[i] = others[i]
			if e := held(t, another); e != api.ErrSet {
				t.Errorf("%v, another's %d: %d", part, i, e)
			}
			// Another set's fragment that says it is of this one: it goes unseen just where both are the same.
			another[i].Set = fs[i].Set
			want := api.ErrGap
			if slices.Equal(others[i].Events, fs[i].Events) {
				want = api.OK
			}
			if e := held(t, another); e != want {
				t.Errorf("%v, another's %d: %d; want %d", part, i, e, want)
			}
		}
	}
}

// P25.1: all heads of a few numbers, of up to three fragments of the model of nothing: the errors in their order, each looked for in all fragments ahead of the next one.
func TestHeads(t *testing.T) {
	set := fragments(api.Model{Version: 3}, nil, 1)[0].Set
	seen := map[api.Errno]int{}
	for n := range 4 {
		var some []split.Fragment
		for _, count := range []int{n, n + 1, 0} {
			for _, index := range []int{-1, 0, 1, n} {
				some = append(some, split.Fragment{Set: set, Index: index, Count: count}, split.Fragment{Set: set ^ 1, Index: index, Count: count})
			}
		}
		some = append(some, split.Fragment{Set: set, Index: 2, Count: n}, split.Fragment{Set: set ^ 1, Index: 2, Count: n})
		for _, places := range sample.Lists(n, 0, len(some)-1) {
			var list []split.Fragment
			for _, at := range places {
				list = append(list, some[at])
			}
			seen[held(t, list)]++
		}
	}
	for _, e := range []api.Errno{api.OK, api.ErrCount, api.ErrSet, api.ErrRange, api.ErrTwice, api.ErrGap} {
		if seen[e] < 4 {
			t.Errorf("%v", seen)
		}
	}
	for _, n := range append(sample.Strangers(3), math.MinInt+1, 1<<20) {
		for i := range 3 {
			fs := apart(sample.Model())
			fs[i].Index = n
			if e := held(t, fs); e != api.ErrRange {
				t.Errorf("index %d: %d", n, e)
			}
			fs[i].Count = n
			if e := held(t, fs); n != 3 && e != api.ErrCount {
				t.Errorf("count %d: %d", n, e)
			}
		}
	}
	if _, e := link.Link([]split.Fragment{}); e != api.ErrCount {
		t.Errorf("none: %d", e)
	}
}

// P25.1: of several errors the one that is named first is told, whichever fragment has it.
func TestOrder(t *testing.T) {
	turns := []struct {
		turn func(f *split.Fragment)
		e    api.Errno
	}{
		{func(f *split.Fragment) { f.Count++ }, api.ErrCount},
		{func(f *split.Fragment) { f.Set++ }, api.ErrSet},
		{func(f *split.Fragment) { f.Index = 4 }, api.ErrRange},
		{func(f *split.Fragment) { f.Index = 3 }, api.ErrTwice},
		{func(f *split.Fragment) { f.Procs = nil }, api.ErrGap},
	}
	for first, a := range turns {
		for _, b := range turns[first+1:] {
			for i := range 3 {
				for k := range 3 {
					fs := fragments(sample.Model(), []int{0, 1, 2}, 4)
					b.turn(&fs[i])
					a.turn(&fs[k])
					if e := held(t, fs); e != a.e {
						t.Errorf("%d and %d: %d; want %d", a.e, b.e, e, a.e)
					}
				}
			}
		}
	}
}

// names are lists that are one thing away from a list of names.
func names(list []string) [][]string {
	all := [][]string{append(slices.Clone(list), "a"), append(slices.Clone(list), "zz"), append(slices.Clone(list), "")}
	for i := range list {
		turned := slices.Clone(list)
		turned[i] += "_"
		all = append(all, slices.Delete(slices.Clone(list), i, i+1), slices.Insert(slices.Clone(list), i, list[i]), turned)
		if i > 0 {
			turned = slices.Clone(list)
			turned[i], turned[i-1] = turned[i-1], turned[i]
			all = append(all, turned)
		}
	}
	return all
}

// P25.1: of fragments of which one is one thing away from what it was no model is linked, not of what they come to all together either.
func TestTurned(t *testing.T) {
	for _, part := range [][]int{{0, 0, 0}, {0, 1, 0}, {1, 0, 0}, {0, 1, 2}} {
		fs := fragments(sample.Model(), part, 3)
		was := own(fs)
		tried := 0
		for i, f := range fs {
			var turned []split.Fragment
			for _, m := range sample.Turned(content(f)) {
				turned = append(turned, with(f, m))
			}
			for _, list := range names(f.Imports) {
				other := f
				other.Imports = list
				turned = append(turned, other)
			}
			for _, list := range names(f.Exports) {
				other := f
				other.Exports = list
				turned = append(turned, other)
			}
			for _, other := range turned {
				fs[i] = other
				want := api.ErrGap
				if reflect.DeepEqual(own(fs), was) {
					want = api.OK
				}
				if e := held(t, fs); e != want {
					t.Fatalf("%#v: %d; want %d", fs, e, want)
				}
				tried++
			}
			fs[i] = f
		}
		if tried < 200 || held(t, fs) != api.OK {
			t.Errorf("%d", tried)
		}
	}
}

// P25.1: fragments with the set of what they come to all together: linked just where they are all that model's.
func TestSet(t *testing.T) {
	seen := map[api.Errno]int{}
	for _, part := range [][]int{{0, 0, 0}, {0, 1, 0}, {0, 1, 2}} {
		for i, f := range fragments(sample.Model(), part, 3) {
			for _, m := range sample.Turned(content(f)) {
				fs := fragments(sample.Model(), part, 3)
				fs[i] = with(f, m)
				all := whole(fs)
				if model.Check(all) != (api.Fault{}) {
					continue
				}
				set := fragments(all, make([]int, len(all.Procs)), 1)[0].Set
				for k := range fs {
					fs[k].Set = set
				}
				seen[held(t, fs)]++
				for k := range fs {
					fs[k].Set++
				}
				if e := held(t, fs); e != api.ErrGap {
					t.Fatalf("%#v: %d", fs, e)
				}
			}
		}
	}
	if len(seen) != 2 || seen[api.OK] < 100 || seen[api.ErrGap] < 20 {
		t.Errorf("%v", seen)
	}
}

// P25.1: what trades places between fragments, or stands in two.
func TestElsewhere(t *testing.T) {
	for i, turn := range []func(a, b *split.Fragment){
		func(a, b *split.Fragment) { a.Procs, b.Procs = b.Procs, a.Procs },
		func(a, b *split.Fragment) { a.Links, b.Links = b.Links, a.Links },
		func(a, b *split.Fragment) { a.Events, b.Events = b.Events, a.Events },
		func(a, b *split.Fragment) { a.Imports, b.Imports = b.Imports, a.Imports },
		func(a, b *split.Fragment) { a.Imports, a.Exports = a.Exports, a.Imports },
		func(a, b *split.Fragment) { a.Index, b.Index, a.Imports = b.Index, a.Index, nil },
		func(a, b *split.Fragment) { a.Procs = append(a.Procs, b.Procs...) },
		func(a, b *split.Fragment) { a.Procs, b.Procs = append(a.Procs, b.Procs...), nil },
		func(a, b *split.Fragment) { a.Links = append(a.Links, b.Links...) },
		func(a, b *split.Fragment) { a.Links, b.Links = append(a.Links, b.Links...), nil },
		func(a, b *split.Fragment) { a.Events = append(a.Events, b.Events...) },
		func(a, b *split.Fragment) { a.Events, b.Events = append(a.Events, b.Events...), nil },
		func(a, b *split.Fragment) { *a = split.Fragment{Set: a.Set, Index: a.Index, Count: a.Count} },
	} {
		fs := own(apart(sample.Model()))
		turn(&fs[0], &fs[1])
		if e := held(t, fs); e != api.ErrGap {
			t.Errorf("case %d: %d", i, e)
		}
	}
	// Whole fragments that trade places are those of the model under other parts.
	fs := apart(sample.Model())
	fs[0].Index, fs[1].Index = 1, 0
	if e := held(t, fs); e != api.OK {
		t.Errorf("%d", e)
	}
}

// P25.1: fragments of what isn't a right model, of its own kind each.
func TestNoModel(t *testing.T) {
	proc := func(name string) []api.Proc { return []api.Proc{{Name: name, Weight: 1}} }
	for i, fs := range [][]split.Fragment{
		{{Index: 0, Count: 1}},
		{{Index: 0, Count: 1, Procs: proc("A")}},
		{{Index: 0, Count: 1, Procs: []api.Proc{{Name: "a"}}}},
		{{Index: 0, Count: 2, Procs: proc("a")}, {Index: 1, Count: 2, Procs: proc("a")}},
		{{Index: 0, Count: 1, Links: []api.Link{{Name: "l", From: "a", To: "a", Delay: 1, Weight: 1}}}},
		{{Index: 0, Count: 1, Events: []api.Event{{To: "a"}}}},
		{{Index: 0, Count: 1, Procs: make([]api.Proc, 5000)}},
	} {
		if e := held(t, fs); e != api.ErrGap {
			t.Errorf("case %d: %d", i, e)
		}
	}
}

// written is the bytes of fragments.
func written(fs []split.Fragment) [][]byte {
	var all [][]byte
	for _, f := range fs {
		b, _ := split.Write(f)
		all = append(all, b)
	}
	return all
}

// P25.2: what is split and written is linked again, in whichever order.
func TestBytes(t *testing.T) {
	for i, m := range right() {
		s := sample.Numbers(i)
		k := 1 + s.Next(5)
		part := make([]int, len(m.Procs))
		for at := range part {
			part[at] = s.Next(k)
		}
		all := written(fragments(m, part, k))
		for _, list := range [][][]byte{all, mixed(&s, all)} {
			if got, e := link.Bytes(list); e != api.OK || !canon.Same(got, canon.Canon(m)) {
				t.Fatalf("%#v, %v: %#v, %d", m, part, got, e)
			}
		}
	}
}

// P25.1: bytes that aren't linked: the error of the first that isn't read comes ahead of all that is wrong with the others.
func TestNotBytes(t *testing.T) {
	all := written(apart(sample.Model()))
	none, short, sum := []byte{}, []byte("SAN"), append(bytes.Clone(all[0]), 0)
	odd := written([]split.Fragment{{}, {Count: 1}})
	file, _ := section.Pack(nil)
	for i, c := range []struct {
		list [][]byte
		e    api.Errno
	}{
		{nil, api.ErrCount},
		{[][]byte{}, api.ErrCount},
		{[][]byte{nil}, api.ErrShort},
		{[][]byte{none, sum}, api.ErrShort},
		{[][]byte{sum, none}, api.ErrSum},
		{[][]byte{all[0], sum, short}, api.ErrSum},
		{[][]byte{all[0], all[0], all[0], short}, api.ErrShort},
		{[][]byte{all[0], all[1], all[2], file}, api.ErrForm},
		{[][]byte{file, short}, api.ErrForm},
		{[][]byte{all[0], all[1]}, api.ErrCount},
		{[][]byte{all[0], all[1], all[1]}, api.ErrTwice},
		{odd[:1], api.ErrCount},
		{odd[1:], api.ErrGap},
	} {
		m, e := link.Bytes(c.list)
		if e != c.e || m.Version != 0 || m.Procs != nil || m.Links != nil || m.Events != nil {
			t.Errorf("case %d: %#v, %d; want %d", i, m, e, c.e)
		}
	}
	for i := range all {
		for k := range all[i] {
			turned := slices.Clone(all)
			turned[i] = bytes.Clone(all[i])
			turned[i][k] ^= 1
			if _, e := link.Bytes(turned); e != api.ErrSum {
				t.Fatalf("%d turned at %d: %d", i, k, e)
			}
		}
	}
}

// within is what Parts must go through.
func within(fs []split.Fragment) []sample.Pair[string, int] {
	var list []sample.Pair[string, int]
	for _, f := range fs {
		for _, p := range f.Procs {
			list = append(list, sample.Pair[string, int]{A: p.Name, B: f.Index})
		}
	}
	return list
}

// P25.1: each process of fragments, as they stand, whether they are a model's or not.
func TestParts(t *testing.T) {
	for i, m := range right() {
		s := sample.Numbers(i)
		part := make([]int, len(m.Procs))
		for at := range part {
			part[at] = s.Next(4)
		}
		fs := mixed(&s, fragments(m, part, 4))
		if want := within(fs); len(want) != len(part) || len(want) < 20 && !sample.Gone(sample.Pairs(link.Parts(fs)), want) || !slices.Equal(slices.Collect(sample.Pairs(link.Parts(fs))), want) {
			t.Fatalf("%#v: not %v", fs, want)
		}
	}
	a, b, none := api.Proc{Name: "a"}, api.Proc{Name: "b"}, api.Proc{}
	for _, fs := range [][]split.Fragment{
		nil,
		{},
		{{}, {}},
		{{Procs: []api.Proc{a, none, a}}, {Procs: []api.Proc{a}}},
		{{Index: -1, Procs: []api.Proc{b, a}}, {Index: math.MaxInt}, {Index: math.MinInt, Procs: []api.Proc{a}}, {Index: -1, Procs: []api.Proc{b}}},
	} {
		if want := within(fs); !sample.Gone(sample.Pairs(link.Parts(fs)), want) {
			t.Errorf("%#v: not %v", fs, want)
		}
	}
}

// room is a copy of fragments whose lists have room behind them, in which something stands.
func room(fs []split.Fragment) []split.Fragment {
	var all []split.Fragment
	for _, f := range fs {
		f = with(f, sample.Roomy(content(f)))
		f.Imports = append(slices.Clone(f.Imports), "behind")[:len(f.Imports)]
		f.Exports = append(slices.Clone(f.Exports), "behind")[:len(f.Exports)]
		all = append(all, f)
	}
	return append(all, split.Fragment{Set: 9})[:len(all)]
}

// behind is a copy of fragments' lists with what stands in the room behind them.
func behind(fs []split.Fragment) []split.Fragment {
	all := slices.Clone(fs[:cap(fs)])
	for i, f := range all {
		all[i] = with(f, sample.Behind(content(f)))
		all[i].Imports = slices.Clone(f.Imports[:cap(f.Imports)])
		all[i].Exports = slices.Clone(f.Exports[:cap(f.Exports)])
	}
	return all
}

// spoil writes fragments over, their lists too.
func spoil(fs []split.Fragment) {
	for i, f := range fs {
		sample.Spoil(content(f))
		clear(f.Imports)
		clear(f.Exports)
		fs[i] = split.Fragment{Index: 7}
	}
}

// P2: what is handed in, and the memory behind it, isn't turned.
func TestLeft(t *testing.T) {
	for i, m := range right() {
		s := sample.Numbers(i)
		part := make([]int, len(m.Procs))
		for at := range part {
			part[at] = s.Next(3)
		}
		fs := room(mixed(&s, fragments(m, part, 3)))
		if i%3 == 0 {
			fs[1].Imports = append(fs[1].Imports, "more")
		}
		was := behind(fs)
		link.Link(fs)
		for range link.Parts(fs) {
		}
		if now := behind(fs); !reflect.DeepEqual(now, was) {
			t.Fatalf("%#v; was %#v", now, was)
		}
		all := written(fragments(m, part, 3))
		link.Bytes(all)
		if !reflect.DeepEqual(all, written(fragments(m, part, 3))) {
			t.Fatalf("%x", all)
		}
	}
}

// P2: what is handed in isn't kept: what is answered stays, and what is gone through, if it is written over behind the call, or on the way.
func TestNotKept(t *testing.T) {
	fs := room(apart(sample.Model()))
	want := canon.Canon(sample.Model())
	pairs := within(fs)
	m, _ := link.Link(fs)
	parts := link.Parts(fs)
	all := written(fs)
	spoil(fs)
	if !canon.Same(m, want) {
		t.Errorf("%#v", m)
	}
	if len(pairs) != 3 || !sample.Gone(sample.Pairs(parts), pairs) {
		t.Errorf("not %v", pairs)
	}
	m, _ = link.Bytes(all)
	for _, b := range all {
		clear(b)
	}
	clear(all)
	if !canon.Same(m, want) {
		t.Errorf("%#v", m)
	}
	fs = apart(sample.Model())
	var on []sample.Pair[string, int]
	for name, i := range link.Parts(fs) {
		on = append(on, sample.Pair[string, int]{A: name, B: i})
		spoil(fs)
	}
	if !slices.Equal(on, pairs) {
		t.Errorf("%v; want %v", on, pairs)
	}
}

// P2: what is answered is new memory, spare room too; no two lists of an answer share any.
func TestAnswersAreNew(t *testing.T) {
	fs := room(apart(sample.Model()))
	was := behind(fs)
	one, _ := link.Link(fs)
	other, _ := link.Link(fs)
	third, _ := link.Bytes(written(fs))
	sample.Fill(one, 1)
	sample.Fill(other, 101)
	sample.Fill(third, 201)
	if !sample.Filled(one, 1) || !sample.Filled(other, 101) || !sample.Filled(third, 201) {
		t.Errorf("lists share memory: %#v, %#v, %#v", one, other, third)
	}
	sample.Spoil(one)
	if now := behind(fs); !reflect.DeepEqual(now, was) || other.Procs[0].Name != "a" {
		t.Errorf("%#v; was %#v", now, was)
	}
	// One process's lists are another's too, in what is handed in.
	m := sample.Model()
	m.Procs[2].Vars, m.Procs[2].Steps = m.Procs[1].Vars, m.Procs[1].Steps[:1]
	fs = apart(m)
	fs[2].Procs[0].Vars, fs[2].Procs[0].Steps = fs[0].Procs[0].Vars, fs[0].Procs[0].Steps[:1]
	one, e := link.Link(fs)
	sample.Fill(one, 1)
	if e != api.OK || !sample.Filled(one, 1) {
		t.Errorf("%d: lists share memory: %#v", e, one)
	}
}

// P25.1, P25.2: as many fragments as may be, of as many of each as may be; one more is no model's.
func TestMost(t *testing.T) {
	m := api.Model{Version: 3}
	for i := range 4096 {
		m.Procs = append(m.Procs, api.Proc{Name: fmt.Sprintf("p%d", i), Weight: 1})
	}
	for i := range 16384 {
		m.Links = append(m.Links, api.Link{Name: fmt.Sprintf("l%d", i), From: m.Procs[i%4096].Name, To: m.Procs[i*31%4096].Name, Delay: 1, Weight: 1})
		m.Events = append(m.Events, api.Event{To: m.Procs[i*17%4096].Name, Value: int64(-i)})
	}
	fs := apart(m)
	slices.Reverse(fs)
	if got, e := link.Link(fs); e != api.OK || !canon.Same(got, canon.Canon(m)) {
		t.Errorf("%d", e)
	}
	if got, e := link.Bytes(written(fs)); e != api.OK || !canon.Same(got, canon.Canon(m)) {
		t.Errorf("%d", e)
	}
	fs = append(fs, split.Fragment{Set: fs[0].Set, Index: 4096})
	for i := range fs {
		fs[i].Count = 4097
	}
	if _, e := link.Link(fs); e != api.ErrGap {
		t.Errorf("one more: %d", e)
	}
}

// The chapter's example.
func TestExample(t *testing.T) {
	fs := apart(sample.Model())
	slices.Reverse(fs)
	if m, e := link.Link(fs); e != api.OK || !canon.Same(m, canon.Canon(sample.Model())) {
		t.Errorf("%#v, %d", m, e)
	}
}
