package split_test

import (
	"bytes"
	"fmt"
	"math"
	"reflect"
	"slices"
	"testing"

	"sandtable/api"
	"sandtable/bundle"
	"sandtable/canon"
	"sandtable/model"
	"sandtable/sample"
	"sandtable/split"
)

// right are right models of version 3, of all kinds and in no order.
func right() []api.Model {
	all := []api.Model{{Version: 3}, {Version: 3, Procs: []api.Proc{}, Links: []api.Link{}, Events: []api.Event{}}, sample.Model(), small()}
	for s := range sample.Numbers(200) {
		all = append(all, s.Model(3, s.Next(9), s.Next(12), s.Next(9)))
	}
	s := sample.Numbers(1)
	return append(all, s.Model(3, 40, 150, 90))
}

// small is a right model of two processes, a link and two events.
func small() api.Model {
	return api.Model{
		Version: 3,
		Procs: []api.Proc{
			{Name: "b", Weight: 2},
			{Name: "a", Weight: 1, Vars: []api.Var{{Name: "y", Init: -1}, {Name: "x"}}, Steps: []api.Step{
				{Kind: api.Put, Name: "x", Arg: api.Arg{Kind: api.Value}},
				{Kind: api.Add, Name: "x", Arg: api.Arg{N: 64}},
				{Kind: api.Send, Name: "l", Arg: api.Arg{Kind: api.Variable, Name: "y"}},
			}},
		},
		Links:  []api.Link{{Name: "l", From: "a", To: "b", Delay: 5, Weight: 4}},
		Events: []api.Event{{To: "b", At: 1, Value: 2}, {To: "a", At: 1, Value: 7}},
	}
}

// chosen is n parts of k.
func chosen(s *sample.Numbers, n, k int) []int {
	part := make([]int, n)
	for i := range part {
		part[i] = s.Next(k)
	}
	return part
}

// tried are fragments of all kinds, right ones and others: of models, of models that are one thing away from one, and with names and numbers of their own.
func tried() []split.Fragment {
	var all []split.Fragment
	for i, m := range right() {
		s := sample.Numbers(i)
		k := 1 + s.Next(4)
		fs, _ := split.Split(m, chosen(&s, len(m.Procs), k), k)
		all = append(all, fs...)
		all = append(all, with(split.Fragment{Set: uint32(s.Next(1 << 24)), Index: s.Next(300), Count: s.Next(1<<20 + 1), Imports: s.Names(s.Next(5)), Exports: s.Names(s.Next(150))}, m))
	}
	fs, _ := split.Split(sample.Model(), []int{0, 1, 0}, 2)
	for _, f := range fs {
		for _, once := range sample.Turned(content(f)) {
			all = append(all, with(f, once))
		}
		for _, n := range []int{0, 127, 128, 1 << 20, 1<<20 + 1, -1, 1 << 32, math.MaxInt, math.MinInt} {
			index, count := f, f
			index.Index, count.Count = n, n
			all = append(all, index, count)
		}
		for _, set := range []uint32{0, 1, 1 << 31, math.MaxUint32} {
			f.Set = set
			all = append(all, f)
		}
		for _, names := range [][]string{nil, {}, {""}, {"b", "a"}, {"a", "a"}, {"no name", "\x00\xff"}} {
			f.Imports, f.Exports = names, f.Imports
			all = append(all, f)
		}
	}
	return all
}

// P24.1: the fragments of a model, written out.
func TestWrittenOutFragments(t *testing.T) {
	b, _ := bundle.Encode(small())
	inner := b[:len(b)-4]
	set := uint32(b[len(b)-4]) | uint32(b[len(b)-3])<<8 | uint32(b[len(b)-2])<<16 | uint32(b[len(b)-1])<<24
	if len(inner) == 0 || set == 0 {
		t.Fatalf("%x", b)
	}
	m := canon.Canon(small())
	a, other := m.Procs[:1], m.Procs[1:]
	toA, toB := m.Events[:1], m.Events[1:]
	for _, c := range []struct {
		part []int
		k    int
		want []split.Fragment
	}{
		{[]int{0, 0}, 1, []split.Fragment{{Procs: m.Procs, Links: m.Links, Events: m.Events}}},
		{[]int{0, 1}, 2, []split.Fragment{{Procs: a, Links: m.Links, Events: toA, Exports: []string{"l"}}, {Procs: other, Events: toB, Imports: []string{"l"}}}},
		{[]int{1, 0}, 2, []split.Fragment{{Procs: other, Events: toB, Imports: []string{"l"}}, {Procs: a, Links: m.Links, Events: toA, Exports: []string{"l"}}}},
		{[]int{1, 1}, 3, []split.Fragment{{}, {Procs: m.Procs, Links: m.Links, Events: m.Events}, {}}},
		{[]int{2, 0}, 3, []split.Fragment{{Procs: other, Events: toB, Imports: []string{"l"}}, {}, {Procs: a, Links: m.Links, Events: toA, Exports: []string{"l"}}}},
	} {
		for i := range c.want {
			c.want[i].Set, c.want[i].Index, c.want[i].Count = set, i, c.k
		}
		if got, f := split.Split(small(), c.part, c.k); f != (api.Fault{}) || !slices.EqualFunc(got, c.want, same) {
			t.Errorf("%v, %d: %#v, %#v; want %#v", c.part, c.k, got, f, c.want)
		}
	}
}

// P24.1: each right model, in many parts; how its declarations stand doesn't count, since parts are of processes as they are laid down.
func TestSplit(t *testing.T) {
	for i, m := range right() {
		s := sample.Numbers(i)
		for k := 1; k < 7; k++ {
			part := chosen(&s, len(m.Procs), k)
			want, f := divided(t, m, part, k)
			if f != (api.Fault{}) {
				t.Fatalf("%#v: %#v", m, f)
			}
			if got, _ := divided(t, s.Mix(m), part, k); !slices.EqualFunc(got, want, same) {
				t.Fatalf("%#v: %#v; want %#v", m, got, want)
			}
		}
	}
	for k := 1; k < 5; k++ {
		for _, part := range sample.Lists(3, 0, k-1) {
			divided(t, sample.Model(), part, k)
		}
	}
	for _, m := range []api.Model{{Version: 3}, small()} {
		if fs, f := divided(t, m, make([]int, len(m.Procs)), 4096); f != (api.Fault{}) || len(fs) != 4096 {
			t.Errorf("%d, %#v", len(fs), f)
		}
	}
}

// P24.1: what can't be split: layer 23's fault first, whatever the parts are, then what is wrong with these.
func TestNotSplit(t *testing.T) {
	part := []int{0, 1, 0}
	seen := map[api.Errno]int{}
	for version := range 5 {
		m := sample.Model()
		m.Version = version
		for _, once := range append(sample.Turned(m), m) {
			for _, c := range []struct {
				part []int
				k    int
			}{{part, 2}, {part, 0}, {nil, 2}} {
				_, f := divided(t, once, c.part, c.k)
				seen[f.E]++
			}
		}
	}
	for _, e := range []api.Errno{api.OK, api.ErrArg, api.ErrVersion, api.ErrName, api.ErrTwice, api.ErrWeight, api.ErrForm, api.ErrNone, api.ErrOwner, api.ErrRange, api.ErrDelay} {
		if seen[e] < 3 {
			t.Errorf("%d of %d", seen[e], e)
		}
	}
	for _, k := range []int{0, -1, 4097, 1 << 32, math.MaxInt, math.MinInt} {
		if _, f := divided(t, small(), []int{0, 0}, k); f != (api.Fault{E: api.ErrArg}) {
			t.Errorf("%d: %#v", k, f)
		}
		divided(t, api.Model{Version: 3}, nil, k)
	}
	for n := range 5 {
		divided(t, sample.Model(), make([]int, n), 1)
		divided(t, api.Model{Version: 3}, make([]int, n), 1)
	}
	for k := 1; k < 4; k++ {
		for _, p := range sample.Strangers(k) {
			for i := range part {
				own := slices.Clone(part)
				own[i] = p
				divided(t, sample.Model(), own, k)
			}
		}
	}
	wrong := small()
	wrong.Events[1].To = "c"
	for i, c := range []struct {
		m    api.Model
		part []int
		k    int
		f    api.Fault
	}{
		{wrong, nil, 0, api.Fault{E: api.ErrNone, At: 5}},
		{api.Model{Version: 2}, nil, 0, api.Fault{E: api.ErrVersion}},
		{api.Model{}, []int{0}, 1, api.Fault{E: api.ErrVersion}},
		{small(), []int{0, 2}, 2, api.Fault{E: api.ErrArg}},
		{small(), []int{-1, 0}, 2, api.Fault{E: api.ErrArg}},
		{small(), []int{0, 0, 0}, 2, api.Fault{E: api.ErrArg}},
	} {
		if fs, f := split.Split(c.m, c.part, c.k); fs != nil || f != c.f {
			t.Errorf("case %d: %#v, %#v", i, fs, f)
		}
	}
}

// P24.2: each process, event and link is in just one fragment, and a link that crosses is one's export and one's import, no other is.
func TestOnce(t *testing.T) {
	for i, m := range right() {
		s := sample.Numbers(i)
		k := 1 + s.Next(5)
		part := chosen(&s, len(m.Procs), k)
		fs, _ := split.Split(m, part, k)
		all := api.Model{Version: 3}
		var imports, exports, crossing []string
		for _, f := range fs {
			all.Procs = append(all.Procs, f.Procs...)
			all.Links = append(all.Links, f.Links...)
			all.Events = append(all.Events, f.Events...)
			imports, exports = append(imports, f.Imports...), append(exports, f.Exports...)
		}
		for l := range split.Cross(m, part) {
			crossing = append(crossing, l.Name)
		}
		slices.Sort(imports)
		slices.Sort(exports)
		if !canon.Same(canon.Canon(all), canon.Canon(m)) || !slices.Equal(imports, crossing) || !slices.Equal(exports, crossing) {
			t.Fatalf("%#v, %v: %#v", m, part, fs)
		}
	}
}

// across is what Cross must go through, reckoned link by link.
func across(m api.Model, part []int) []api.Link {
	if model.Check(m) != (api.Fault{}) || len(part) != len(m.Procs) {
		return nil
	}
	laid := canon.Canon(m)
	return slices.DeleteFunc(laid.Links, func(l api.Link) bool {
		return part[model.Proc(laid, l.From)] == part[model.Proc(laid, l.To)]
	})
}

// P24.1: the links that cross, as they are laid down, of models of each version, by parts of any numbers.
func TestCross(t *testing.T) {
	crossing := 0
	for i := range 300 {
		s := sample.Numbers(i)
		m := s.Model(1+i%3, s.Next(6), s.Next(9), s.Next(3))
		part := chosen(&s, len(m.Procs), 1+s.Next(3))
		want := across(m, part)
		crossing += len(want)
		for _, m := range []api.Model{m, s.Mix(m)} {
			if !sample.Gone(split.Cross(m, part), want) {
				t.Fatalf("%#v, %v: %#v; want %#v", m, part, slices.Collect(split.Cross(m, part)), want)
			}
		}
	}
	if crossing < 200 {
		t.Errorf("%d", crossing)
	}
	strange := append(sample.Strangers(3), 0, 1)
	for i, p := range strange {
		part := []int{p, strange[(i+1)%len(strange)], p}
		if got, want := slices.Collect(split.Cross(sample.Model(), part)), across(sample.Model(), part); !slices.Equal(got, want) || len(want) != 2 {
			t.Errorf("%v: %#v; want %#v", part, got, want)
		}
	}
}

// P24.1: nothing crosses of a wrong model, nor by more parts, or fewer, than processes.
func TestNothingCrosses(t *testing.T) {
	seen := 0
	for _, m := range append(sample.Turned(sample.Model()), api.Model{}, api.Model{Version: 4}) {
		for n := range 6 {
			part := []int{1, 2, 3, 4, 5}[:n]
			got, want := slices.Collect(split.Cross(m, part)), across(m, part)
			if !slices.Equal(got, want) {
				t.Fatalf("%#v, %v: %#v; want %#v", m, part, got, want)
			}
			seen += len(want)
		}
	}
	if seen < 100 {
		t.Errorf("%d", seen)
	}
	for range split.Cross(small(), []int{5, 5}) {
		t.Error("nothing crosses")
	}
}

// P24.1: fragments' bodies, written out.
func TestWrittenOutBytes(t *testing.T) {
	for _, c := range []struct {
		f    split.Fragment
		want [6]string
	}{
		{split.Fragment{}, [6]string{"\x00\x00\x00\x00\x00\x00", "\x00", "\x00", "\x00", "\x00", "\x00"}},
		{
			split.Fragment{
				Set: 0x01020384, Index: 128, Count: 1 << 20,
				Procs: []api.Proc{
					{Name: "b", Weight: -64},
					{Weight: 64, Vars: []api.Var{{Name: "y", Init: -1}, {}}, Steps: []api.Step{
						{},
						{Kind: 300, Name: "l", Arg: api.Arg{Kind: 7, N: math.MinInt64, Name: "yy"}},
					}},
				},
				Links:   []api.Link{{Name: "l", From: "a", To: "b", Delay: -5, Weight: 4}, {Name: "k"}},
				Events:  []api.Event{{To: "b", At: 1, Value: -2}, {At: -1}},
				Imports: []string{"m", "", "m"},
				Exports: []string{"\x00\xff"},
			},
			[6]string{
				"\x84\x03\x02\x01\x80\x01\x80\x80\x40",
				"\x02\x01b\x7f\x00\x00\x00\x80\x01\x02\x01y\x01\x00\x00\x02\x00\x00\x00\x00\x00\xac\x02\x01l\x07\xff\xff\xff\xff\xff\xff\xff\xff\xff\x01\x02yy",
				"\x02\x01l\x01a\x01b\x09\x08\x01k\x00\x00\x00\x00",
				"\x02\x01b\x02\x03\x00\x01\x00",
				"\x03\x01m\x00\x01m",
				"\x01\x02\x00\xff",
			},
		},
	} {
		b, e := split.Write(c.f)
		if want := file(1, c.want[:]...); e != api.OK || !bytes.Equal(b, want) {
			t.Errorf("%#v: %x, %d; want %x", c.f, b, e, want)
		}
		if f, e := split.Read(b); e != api.OK || !same(f, c.f) {
			t.Errorf("%x: %#v, %d", b, f, e)
		}
	}
}

// P24.1: what is written has the bytes that it must have, and is read again, whether it is of a model or not.
func TestWrite(t *testing.T) {
	seen := map[api.Errno]int{}
	for _, f := range tried() {
		seen[wrote(t, f)]++
	}
	if seen[api.OK] < 500 || seen[api.ErrArg] < 10 {
		t.Errorf("%v", seen)
	}
}

// wide is a fragment with two things in each list.
func wide() split.Fragment {
	f := split.Fragment{Imports: []string{"a", "b"}, Exports: []string{"c", "d"}, Links: make([]api.Link, 2), Events: make([]api.Event, 2), Procs: make([]api.Proc, 2)}
	for i := range f.Procs {
		f.Procs[i] = api.Proc{Vars: make([]api.Var, 2), Steps: make([]api.Step, 2)}
	}
	return f
}

// P24.1: each number that is counted, and each name, at its bound, and beyond it, in the first thing of its list and in the last one.
func TestBounds(t *testing.T) {
	for i := range 2 {
		for which, field := range []func(f *split.Fragment) *int{
			func(f *split.Fragment) *int { return &f.Index },
			func(f *split.Fragment) *int { return &f.Count },
			func(f *split.Fragment) *int { return &f.Procs[i].Steps[i].Kind },
			func(f *split.Fragment) *int { return &f.Procs[i].Steps[i].Arg.Kind },
		} {
			for n, e := range map[int]api.Errno{0: 0, 1 << 20: 0, 1<<20 + 1: 1, -1: 1, math.MaxInt: 1, math.MinInt: 1, 1 << 32: 1} {
				f := wide()
				*field(&f) = n
				if got := wrote(t, f); got != e {
					t.Errorf("number %d, %d: %d", which, n, got)
				}
			}
		}
		for which, field := range []func(f *split.Fragment) *string{
			func(f *split.Fragment) *string { return &f.Procs[i].Name },
			func(f *split.Fragment) *string { return &f.Procs[i].Vars[i].Name },
			func(f *split.Fragment) *string { return &f.Procs[i].Steps[i].Name },
			func(f *split.Fragment) *string { return &f.Procs[i].Steps[i].Arg.Name },
			func(f *split.Fragment) *string { return &f.Links[i].Name },
			func(f *split.Fragment) *string { return &f.Links[i].From },
			func(f *split.Fragment) *string { return &f.Links[i].To },
			func(f *split.Fragment) *string { return &f.Events[i].To },
			func(f *split.Fragment) *string { return &f.Imports[i] },
			func(f *split.Fragment) *string { return &f.Exports[i] },
		} {
			for n, e := range map[int]api.Errno{0: 0, 127: 0, 128: 0, 1024: 0, 1025: 1, 1 << 20: 1} {
				f := wide()
				*field(&f) = string(bytes.Repeat([]byte{0xFF}, n))
				if got := wrote(t, f); got != e {
					t.Errorf("name %d, %d bytes: %d", which, n, got)
				}
				if b := plain(f); e != api.OK {
					refused(t, b, api.ErrForm)
				}
			}
		}
	}
}

// P24.1: lists of as many items as may be, and of one more.
func TestLongLists(t *testing.T) {
	for which, long := range []func(f *split.Fragment, n int){
		func(f *split.Fragment, n int) { f.Procs = make([]api.Proc, n) },
		func(f *split.Fragment, n int) { f.Procs[1].Vars = make([]api.Var, n) },
		func(f *split.Fragment, n int) { f.Procs[1].Steps = make([]api.Step, n) },
		func(f *split.Fragment, n int) { f.Links = make([]api.Link, n) },
		func(f *split.Fragment, n int) { f.Events = make([]api.Event, n) },
		func(f *split.Fragment, n int) { f.Imports = make([]string, n) },
		func(f *split.Fragment, n int) { f.Exports = make([]string, n) },
	} {
		most, over := wide(), wide()
		long(&most, 1<<20)
		long(&over, 1<<20+1)
		if e := wrote(t, most); e != api.OK {
			t.Errorf("list %d: %d", which, e)
		}
		if e := wrote(t, over); e != api.ErrArg {
			t.Errorf("list %d, one more: %d", which, e)
		}
		refused(t, plain(over), api.ErrForm)
	}
}

// P1: what can't be written is left as soon as it is found, though the same great list stands in many processes.
func TestSoonLeft(t *testing.T) {
	p := api.Proc{Vars: make([]api.Var, 1<<20+1), Steps: make([]api.Step, 1<<20)}
	f := split.Fragment{Procs: slices.Repeat([]api.Proc{p}, 1<<20)}
	if b, e := split.Write(f); b != nil || e != api.ErrArg {
		t.Errorf("%d", e)
	}
}

// P24.1: bytes that are no file: layer 22's errors, in their order.
func TestNoFile(t *testing.T) {
	b := plain(tried()[5])
	inner := b[:len(b)-4]
	for _, c := range []struct {
		b []byte
		e api.Errno
	}{
		{nil, api.ErrShort},
		{[]byte("SAN"), api.ErrShort},
		{[]byte("SAND"), api.ErrSum},
		{inner, api.ErrSum},
		{b[1:], api.ErrSum},
		{append(bytes.Clone(b), 0), api.ErrSum},
		{sealed(nil), api.ErrSign},
		{sealed(inner[1:]), api.ErrSign},
		{sealed([]byte("SAND")), api.ErrForm},
		{sealed(inner[:len(inner)-1]), api.ErrForm},
		{sealed(append(bytes.Clone(inner), 0)), api.ErrForm},
		{sealed(b), api.ErrForm},
		{file(1), api.ErrForm},
	} {
		refused(t, c.b, c.e)
	}
	for k := range inner {
		for _, part := range [][]byte{b[:k], b[k+1:], sealed(inner[:k]), sealed(inner[k+1:])} {
			if _, e := read(t, part); e == api.OK {
				t.Errorf("%x", part)
			}
		}
	}
}

// P24.1: files of other sections than the six.
func TestOtherSections(t *testing.T) {
	for _, f := range append([]split.Fragment{{}}, tried()[:20]...) {
		own := bodies(f)
		all := own[:]
		if _, e := read(t, file(1, all...)); e != api.OK {
			t.Fatalf("%d", e)
		}
		for _, b := range [][]byte{
			file(0, all...),
			file(2, all...),
			file(250, all...),
			file(0, append([]string{""}, all...)...),
			file(1, append(slices.Clone(all), "")...),
			file(1, append(slices.Clone(all), "\x00")...),
			file(1, slices.Repeat(all, 42)...),
		} {
			refused(t, b, api.ErrForm)
		}
		for i := range all {
			refused(t, file(1, all[:i]...), api.ErrForm)
			refused(t, file(i+2, all[i+1:]...), api.ErrForm)
			refused(t, file(1, slices.Delete(slices.Clone(all), i, i+1)...), api.ErrForm)
			empty, behind := slices.Clone(all), slices.Clone(all)
			empty[i], behind[i] = "", behind[i]+"\x00"
			refused(t, file(1, empty...), api.ErrForm)
			refused(t, file(1, behind...), api.ErrForm)
		}
	}
}

// P24.1: of all bytes that are one edit away from a body those alone are read that are a fragment's.
func TestEdited(t *testing.T) {
	seen := map[api.Errno]int{}
	fs, _ := split.Split(sample.Model(), []int{0, 1, 0}, 2)
	other, _ := split.Split(small(), []int{1, 0}, 3)
	for _, f := range append(append(fs, other...), split.Fragment{}) {
		for part, body := range bodies(f) {
			for other := range sample.Edits([]byte(body)) {
				turned := bodies(f)
				turned[part] = string(other)
				got, e := read(t, file(1, turned[:]...))
				seen[e]++
				if e == api.OK && same(got, f) {
					t.Fatalf("%q: as it was", turned)
				}
			}
		}
	}
	if len(seen) != 2 || seen[api.OK] < 1000 || seen[api.ErrForm] < 1000 {
		t.Errorf("%v", seen)
	}
}

// P24.1: short bodies of a few kinds, and bodies of no kind.
func TestAnyBodies(t *testing.T) {
	seen := map[api.Errno]int{}
	for _, s := range sample.Texts(5, "\x00", "\x01", "\x02", "\x01a", "\x80") {
		for part, body := range bodies(split.Fragment{}) {
			own := bodies(split.Fragment{})
			own[part] = s
			_, e := read(t, file(1, own[:]...))
			seen[e]++
			own[part] = body + s
			_, e = read(t, file(1, own[:]...))
			seen[e]++
		}
	}
	s := sample.Numbers(1)
	for n := range 300 {
		var own []string
		for range 6 {
			own = append(own, string(s.Bytes(n%30)))
		}
		_, e := read(t, file(1, own...))
		seen[e]++
	}
	if len(seen) != 2 || seen[api.OK] < 1000 || seen[api.ErrForm] < 1000 {
		t.Errorf("%v", seen)
	}
}

// P1: numbers of things as great as a number may be, behind which few stand, or none; a number beyond its bound, or in more bytes than it needs, is no fragment's.
func TestGreatNumbers(t *testing.T) {
	own := bodies(split.Fragment{})
	for _, great := range []string{"\x80\x80\x40", "\x81\x80\x40", "\xff\xff\xff\xff\x0f", "\xff\xff\xff\xff\xff\xff\xff\xff\x7f", "\xff\xff\xff\xff\xff\xff\xff\xff\xff\x01", "\x80\x80\x80\x80\x80\x80\x80\x80\x80\x02", "\x80\x00", "\x82\x00"} {
		for part := 1; part < 6; part++ {
			for _, tail := range []string{"", "\x00", "\x00\x00\x00"} {
				turned := own
				turned[part] = great + tail
				refused(t, file(1, turned[:]...), api.ErrForm)
			}
		}
		for _, body := range []string{"\x01\x00\x00" + great, "\x01\x00\x00\x00" + great, "\x80\x80\x40\x00\x00" + great} {
			turned := own
			turned[1] = body
			refused(t, file(1, turned[:]...), api.ErrForm)
		}
	}
	for _, c := range []struct {
		head string
		e    api.Errno
	}{
		{"\x01\x02\x03\x04\x80\x80\x40\x80\x80\x40", api.OK},
		{"\x01\x02\x03\x04\x81\x80\x40\x00", api.ErrForm},
		{"\x01\x02\x03\x04\x00\x81\x80\x40", api.ErrForm},
		{"\x01\x02\x03\x04\x80\x00\x00", api.ErrForm},
		{"\x01\x02\x03\x04\x00", api.ErrForm},
		{"\x01\x02\x03", api.ErrForm},
	} {
		own[0] = c.head
		refused(t, file(1, own[:]...), c.e)
	}
}

// P4: with something turned within 32 bits that follow one another, in whichever section, nothing is read.
func TestTurned(t *testing.T) {
	fs, _ := split.Split(sample.Model(), []int{0, 1, 0}, 2)
	for _, f := range append(fs, split.Fragment{}) {
		b, _ := split.Write(f)
		for other := range sample.Bursts(b) {
			if got, e := split.Read(other); e != api.ErrSum || !nothing(got) {
				t.Fatalf("%x turned into %x: %#v, %d", b, other, got, e)
			}
		}
	}
}

// room is a copy of a fragment whose lists have room behind them, in which something stands.
func room(f split.Fragment) split.Fragment {
	f = with(f, sample.Roomy(content(f)))
	f.Imports = append(slices.Clone(f.Imports), "behind")[:len(f.Imports)]
	f.Exports = append(slices.Clone(f.Exports), "behind")[:len(f.Exports)]
	return f
}

// behind is a copy of a fragment's lists with what stands in the room behind them.
func behind(f split.Fragment) split.Fragment {
	f = with(f, sample.Behind(content(f)))
	f.Imports = slices.Clone(f.Imports[:cap(f.Imports)])
	f.Exports = slices.Clone(f.Exports[:cap(f.Exports)])
	return f
}

// spoil writes a fragment's lists over, and the room behind them.
func spoil(f split.Fragment) {
	sample.Spoil(content(f))
	for _, names := range [][]string{f.Imports, f.Exports} {
		names = names[:cap(names)]
		for i := range names {
			names[i] = "over"
		}
	}
}

// P2: what is handed in, and the memory behind it, isn't turned.
func TestLeft(t *testing.T) {
	for i, m := range append(sample.Turned(sample.Model()), right()...) {
		s := sample.Numbers(i)
		m = sample.Roomy(m)
		part := append(chosen(&s, len(m.Procs), 3), 9)
		was, parts := sample.Behind(m), slices.Clone(part)
		split.Split(m, part[:len(m.Procs)], 3)
		for range split.Cross(m, part[:len(m.Procs)]) {
		}
		if now := sample.Behind(m); !reflect.DeepEqual(now, was) || !slices.Equal(part, parts) {
			t.Fatalf("%#v, %v; was %#v, %v", now, part, was, parts)
		}
	}
	for _, f := range tried() {
		f = room(f)
		was := behind(f)
		b, _ := split.Write(f)
		if now := behind(f); !reflect.DeepEqual(now, was) {
			t.Fatalf("%#v; was %#v", now, was)
		}
		own := append(bytes.Clone(b), "behind"...)
		split.Read(own[:len(b)])
		if !bytes.Equal(own, append(bytes.Clone(b), "behind"...)) {
			t.Fatalf("%x; was %x", own, b)
		}
	}
}

// P2: what is handed in isn't kept: what is answered stays, and what is gone through, if it is written over behind the call, or on the way.
func TestNotKept(t *testing.T) {
	m, part := sample.Roomy(sample.Model()), []int{0, 1, 2}
	want, links := shares(m, part, 3), across(m, part)
	fs, _ := split.Split(m, part, 3)
	cross := split.Cross(m, part)
	sample.Spoil(m)
	clear(part)
	if !slices.EqualFunc(fs, want, same) {
		t.Errorf("%#v; want %#v", fs, want)
	}
	if !sample.Gone(cross, links) || len(links) != 2 {
		t.Errorf("%#v; want %#v", slices.Collect(cross), links)
	}
	// What was wrong at the call has no links that cross, whatever is written over it.
	m = sample.Model()
	m.Links[0].Delay = 0
	part = []int{0, 1, 2}
	cross = split.Cross(m, part)
	m.Links[0].Delay = 1
	for l := range cross {
		t.Errorf("%#v", l)
	}
	m = sample.Roomy(sample.Model())
	var on []api.Link
	for l := range split.Cross(m, part) {
		on = append(on, l)
		sample.Spoil(m)
		clear(part)
	}
	if !slices.Equal(on, links) {
		t.Errorf("%#v; want %#v", on, links)
	}
	f := room(want[0])
	b, _ := split.Write(f)
	spoil(f)
	got, e := split.Read(b)
	clear(b)
	if e != api.OK || !same(got, want[0]) {
		t.Errorf("%#v, %d; want %#v", got, e, want[0])
	}
}

// lists writes a number of its own all over each list of fragments, and the room behind it, but for the lists that processes are in, and tells whether each list is still so when all are written: lists that share memory aren't.
func lists(fs []split.Fragment) bool {
	for i, f := range fs {
		sample.Fill(content(f), int64(100*i))
		for k, names := range [][]string{f.Imports, f.Exports} {
			names = names[:cap(names)]
			for at := range names {
				names[at] = fmt.Sprint(i, k)
			}
		}
	}
	for i, f := range fs {
		if !sample.Filled(content(f), int64(100*i)) {
			return false
		}
		for k, names := range [][]string{f.Imports, f.Exports} {
			if slices.ContainsFunc(names[:cap(names)], func(s string) bool { return s != fmt.Sprint(i, k) }) {
				return false
			}
		}
	}
	return true
}

// P2: what is answered is new memory, spare room too; no two lists of an answer share any.
func TestAnswersAreNew(t *testing.T) {
	s := sample.Numbers(3)
	m := sample.Roomy(s.Model(3, 9, 40, 40))
	part := chosen(&s, 9, 4)
	was := sample.Behind(m)
	want := shares(m, part, 4)
	one, _ := split.Split(m, part, 4)
	other, _ := split.Split(m, part, 4)
	for _, f := range one {
		_ = append(f.Procs, api.Proc{Name: "behind"})
	}
	if !slices.EqualFunc(one, want, same) {
		t.Errorf("%#v; want %#v", one, want)
	}
	for _, f := range one {
		clear(f.Procs[:cap(f.Procs)])
	}
	if !slices.EqualFunc(other, want, same) {
		t.Errorf("%#v; want %#v", other, want)
	}
	one, _ = split.Split(m, part, 4)
	if !lists(slices.Concat(one, other)) {
		t.Errorf("lists share memory: %#v", one)
	}
	for i := range one {
		spoil(one[i])
		b, _ := split.Write(want[i])
		kept := bytes.Clone(b)
		again, _ := split.Write(want[i])
		clear(again[:cap(again)])
		x, _ := split.Read(b)
		y, _ := split.Read(b)
		if !lists([]split.Fragment{x, y}) || !bytes.Equal(b, kept) {
			t.Errorf("lists share memory: %#v", x)
		}
	}
	if now := sample.Behind(m); !reflect.DeepEqual(now, was) {
		t.Errorf("%#v; was %#v", now, was)
	}
}

// most is a right model of as many processes, links and events as may be.
func most() api.Model {
	m := api.Model{Version: 3}
	for i := range 4096 {
		m.Procs = append(m.Procs, api.Proc{Name: fmt.Sprintf("p%d", i), Weight: 1 << 20, Vars: []api.Var{{Name: "x", Init: -1 << 40}}, Steps: []api.Step{{Kind: api.Mul, Name: "x", Arg: api.Arg{Kind: api.Variable, Name: "x"}}}})
	}
	for i := range 16384 {
		m.Links = append(m.Links, api.Link{Name: fmt.Sprintf("l%d", i), From: m.Procs[i%4096].Name, To: m.Procs[i*31%4096].Name, Delay: 1 << 40, Weight: 1 << 20})
		m.Events = append(m.Events, api.Event{To: m.Procs[i*17%4096].Name, At: 1 << 40, Value: int64(-i)})
	}
	return m
}

// P24.1, P24.2: as many of each as may be, in as many parts as may be, and all in one of them.
func TestMost(t *testing.T) {
	m := most()
	laid := canon.Canon(m)
	apart, together := make([]int, 4096), make([]int, 4096)
	for i := range apart {
		apart[i], together[i] = 4095-i, 4095
	}
	fs, f := split.Split(m, apart, 4096)
	if f != (api.Fault{}) || len(fs) != 4096 {
		t.Fatalf("%#v", f)
	}
	links, events := 0, 0
	for i, f := range fs {
		if len(f.Procs) != 1 || f.Procs[0].Name != laid.Procs[4095-i].Name || len(f.Events) != 4 || len(f.Links) != 4 {
			t.Fatalf("%#v", f)
		}
		links += len(f.Imports)
		events += len(f.Exports)
	}
	if crossing := len(slices.Collect(split.Cross(m, apart))); links != crossing || events != crossing || crossing < 16000 {
		t.Errorf("%d, %d, %d", links, events, crossing)
	}
	fs, _ = split.Split(m, together, 4096)
	if !canon.Same(content(fs[4095]), content(with(split.Fragment{}, laid))) || len(fs[4095].Imports)+len(fs[4095].Exports)+len(fs[0].Procs) != 0 {
		t.Errorf("%d processes", len(fs[4095].Procs))
	}
	if e := wrote(t, fs[4095]); e != api.OK {
		t.Errorf("%d", e)
	}
}

// The chapter's example.
func TestExample(t *testing.T) {
	m := api.Model{Version: 3, Procs: []api.Proc{{Name: "a", Weight: 1}, {Name: "b", Weight: 1}}, Links: []api.Link{{Name: "l", From: "a", To: "b", Delay: 1, Weight: 1}}}
	fs, f := split.Split(m, []int{0, 1}, 2)
	if f != (api.Fault{}) || len(fs) != 2 || !slices.Equal(fs[0].Exports, []string{"l"}) || !slices.Equal(fs[1].Imports, []string{"l"}) || len(fs[0].Imports)+len(fs[1].Exports) != 0 {
		t.Errorf("%#v, %#v", fs, f)
	}
}
