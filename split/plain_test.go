package split_test

import (
	"bytes"
	"encoding/binary"
	"fmt"
	"hash/crc32"
	"slices"
	"strings"
	"testing"

	"sandtable/api"
	"sandtable/bundle"
	"sandtable/canon"
	"sandtable/model"
	"sandtable/section"
	"sandtable/split"
)

// fields are bytes to which fields are written.
type fields struct {
	b []byte
}

func (x *fields) count(n int) {
	x.b = binary.AppendUvarint(x.b, uint64(n))
}

func (x *fields) nums(list ...int64) {
	for _, n := range list {
		x.b = binary.AppendVarint(x.b, n)
	}
}

func (x *fields) texts(list ...string) {
	for _, s := range list {
		x.count(len(s))
		x.b = append(x.b, s...)
	}
}

// bodies are the bodies that a fragment's file must have.
func bodies(f split.Fragment) [6]string {
	var x [6]fields
	x[0].b = binary.LittleEndian.AppendUint32(nil, f.Set)
	x[0].count(f.Index)
	x[0].count(f.Count)
	x[1].count(len(f.Procs))
	for _, p := range f.Procs {
		x[1].texts(p.Name)
		x[1].nums(p.Weight)
		x[1].count(len(p.Vars))
		for _, v := range p.Vars {
			x[1].texts(v.Name)
			x[1].nums(v.Init)
		}
		x[1].count(len(p.Steps))
		for _, s := range p.Steps {
			x[1].count(s.Kind)
			x[1].texts(s.Name)
			x[1].count(s.Arg.Kind)
			x[1].nums(s.Arg.N)
			x[1].texts(s.Arg.Name)
		}
	}
	x[2].count(len(f.Links))
	for _, l := range f.Links {
		x[2].texts(l.Name, l.From, l.To)
		x[2].nums(l.Delay, l.Weight)
	}
	x[3].count(len(f.Events))
	for _, e := range f.Events {
		x[3].texts(e.To)
		x[3].nums(e.At, e.Value)
	}
	for i, names := range [][]string{f.Imports, f.Exports} {
		x[4+i].count(len(names))
		x[4+i].texts(names...)
	}
	var all [6]string
	for i := range x {
		all[i] = string(x[i].b)
	}
	return all
}

// file is a file's bytes, of bodies with the tags from a first one on.
func file(first int, bodies ...string) []byte {
	b := binary.AppendUvarint([]byte("SAND"), uint64(len(bodies)))
	for i, body := range bodies {
		b = binary.AppendUvarint(append(b, byte(first+i)), uint64(len(body)))
		b = binary.LittleEndian.AppendUint32(b, crc32.ChecksumIEEE([]byte(body)))
	}
	return sealed(append(b, strings.Join(bodies, "")...))
}

// sealed is bytes with their sum behind them.
func sealed(b []byte) []byte {
	return binary.LittleEndian.AppendUint32(bytes.Clone(b), crc32.ChecksumIEEE(b))
}

// plain is the bytes that a fragment must have, whether it can have any or not.
func plain(f split.Fragment) []byte {
	parts := bodies(f)
	return file(1, parts[:]...)
}

// content is what a fragment has of a model, its lists the fragment's own.
func content(f split.Fragment) api.Model {
	return api.Model{Procs: f.Procs, Links: f.Links, Events: f.Events}
}

// with is a fragment with what another model has.
func with(f split.Fragment, m api.Model) split.Fragment {
	f.Procs, f.Links, f.Events = m.Procs, m.Links, m.Events
	return f
}

// same tells whether two fragments are the same, list by list.
func same(a, b split.Fragment) bool {
	return a.Set == b.Set && a.Index == b.Index && a.Count == b.Count && canon.Same(content(a), content(b)) &&
		slices.Equal(a.Imports, b.Imports) && slices.Equal(a.Exports, b.Exports)
}

// nothing tells whether a fragment is the zero one.
func nothing(f split.Fragment) bool {
	return same(f, split.Fragment{}) && f.Procs == nil && f.Links == nil && f.Events == nil && f.Imports == nil && f.Exports == nil
}

// shares are the fragments that there must be of a right model of version 3, reckoned one by one.
func shares(m api.Model, part []int, k int) []split.Fragment {
	laid := canon.Canon(m)
	b, _ := bundle.Encode(m)
	of := func(name string) int { return part[model.Proc(laid, name)] }
	var all []split.Fragment
	for i := range k {
		f := split.Fragment{Set: crc32.ChecksumIEEE(b[:len(b)-4]), Index: i, Count: k}
		for at, p := range laid.Procs {
			if part[at] == i {
				f.Procs = append(f.Procs, p)
			}
		}
		for _, l := range laid.Links {
			if of(l.From) == i {
				f.Links = append(f.Links, l)
			}
			if of(l.From) == i && of(l.To) != i {
				f.Exports = append(f.Exports, l.Name)
			}
			if of(l.From) != i && of(l.To) == i {
				f.Imports = append(f.Imports, l.Name)
			}
		}
		for _, e := range laid.Events {
			if of(e.To) == i {
				f.Events = append(f.Events, e)
			}
		}
		all = append(all, f)
	}
	return all
}

// divided holds what Split answers.
func divided(t *testing.T, m api.Model, part []int, k int) ([]split.Fragment, api.Fault) {
	t.Helper()
	_, fault := bundle.Encode(m)
	if fault.E == 0 && (k < 1 || k > 4096 || len(part) != len(m.Procs) || len(part) > 0 && (slices.Min(part) < 0 || slices.Max(part) >= k)) {
		fault = api.Fault{E: 1}
	}
	var want []split.Fragment
	if fault.E == 0 {
		want = shares(m, part, k)
	}
	got, f := split.Split(m, part, k)
	if f != fault || !slices.EqualFunc(got, want, same) || f.E != 0 && got != nil {
		t.Fatalf("%#v, %v, %d: %#v, %#v; want %#v, %#v", m, part, k, got, f, want, fault)
	}
	return got, f
}

// told is the beginning of what there is to tell of a fragment, which may be long.
func told(f split.Fragment) string {
	return fmt.Sprintf("%.1000s", fmt.Sprintf("%#v", f))
}

// can tells whether a fragment can have bytes.
func can(f split.Fragment) bool {
	names := slices.Concat(f.Imports, f.Exports)
	numbers := []int{f.Index, f.Count, len(f.Procs), len(f.Links), len(f.Events), len(f.Imports), len(f.Exports)}
	for _, p := range f.Procs {
		names = append(names, p.Name)
		numbers = append(numbers, len(p.Vars), len(p.Steps))
		for _, v := range p.Vars {
			names = append(names, v.Name)
		}
		for _, s := range p.Steps {
			names = append(names, s.Name, s.Arg.Name)
			numbers = append(numbers, s.Kind, s.Arg.Kind)
		}
	}
	for _, l := range f.Links {
		names = append(names, l.Name, l.From, l.To)
	}
	for _, e := range f.Events {
		names = append(names, e.To)
	}
	return !slices.ContainsFunc(names, func(s string) bool { return len(s) > 1024 }) &&
		slices.Min(numbers) >= 0 && slices.Max(numbers) <= 1<<20
}

// wrote holds what Write answers, and that it is read as what was written.
func wrote(t *testing.T, f split.Fragment) api.Errno {
	t.Helper()
	b, e := split.Write(f)
	if !can(f) {
		if b != nil || e != 1 {
			t.Fatalf("%s: %.300x, %d", told(f), b, e)
		}
		return e
	}
	if e != api.OK || !bytes.Equal(b, plain(f)) {
		t.Fatalf("%s: %.300x, %d; want %.300x", told(f), b, e, plain(f))
	}
	if back, e := split.Read(b); e != api.OK || !same(back, f) {
		t.Fatalf("%s: %s, %d", told(f), told(back), e)
	}
	return e
}

// read holds what Read answers of bytes: a fragment that has these, or an error and nothing else.
func read(t *testing.T, b []byte) (split.Fragment, api.Errno) {
	t.Helper()
	f, e := split.Read(b)
	_, file := section.Unpack(b)
	switch {
	case e == api.OK && (!can(f) || !bytes.Equal(plain(f), b)):
		t.Fatalf("%.300x: %s", b, told(f))
	case e != api.OK && !nothing(f):
		t.Fatalf("%.300x: %s, %d", b, told(f), e)
	case file != api.OK && e != file, file == api.OK && e != api.OK && e != 21:
		t.Fatalf("%.300x: %d", b, e)
	}
	return f, e
}

// refused holds that bytes aren't read, by an error.
func refused(t *testing.T, b []byte, want api.Errno) {
	t.Helper()
	if f, e := read(t, b); e != want {
		t.Fatalf("%.300x: %s, %d; want %d", b, told(f), e, want)
	}
}
