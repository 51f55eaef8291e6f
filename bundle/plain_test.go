package bundle_test

import (
	"bytes"
	"encoding/binary"
	"hash/crc32"
	"slices"
	"strings"
	"testing"

	"sandtable/api"
	"sandtable/bundle"
	"sandtable/canon"
	"sandtable/model"
)

// numbers are bytes to which numbers are written.
type numbers struct {
	b []byte
}

// count writes a number from 0 on; one below 0 comes out as one that is too great.
func (n *numbers) count(list ...int) {
	for _, x := range list {
		n.b = binary.AppendUvarint(n.b, uint64(x))
	}
}

func (n *numbers) num(list ...int64) {
	for _, x := range list {
		n.b = binary.AppendVarint(n.b, x)
	}
}

// place is where something stands; behind all, if it isn't there.
func place(list []string, s string) int {
	if at := slices.Index(list, s); at >= 0 {
		return at
	}
	return len(list)
}

// bodies are the bodies that a bundle must have of a model that stands so, right or not.
func bodies(m api.Model) [5]string {
	var names, procs []string
	for _, p := range m.Procs {
		procs = append(procs, p.Name)
		names = append(names, p.Name)
		for _, v := range p.Vars {
			names = append(names, v.Name)
		}
	}
	for _, l := range m.Links {
		names = append(names, l.Name)
	}
	slices.Sort(names)
	names = slices.Compact(names)
	var n [5]numbers
	n[0].count(len(names))
	for _, s := range names {
		n[0].count(len(s))
		n[0].b = append(n[0].b, s...)
	}
	n[1].count(len(m.Procs))
	for _, p := range m.Procs {
		n[1].count(place(names, p.Name))
		n[1].num(p.Weight)
		n[1].count(len(p.Vars))
		for _, v := range p.Vars {
			n[1].count(place(names, v.Name))
			n[1].num(v.Init)
		}
	}
	n[2].count(len(m.Links))
	for _, l := range m.Links {
		n[2].count(place(names, l.Name), place(procs, l.From), place(procs, l.To))
		n[2].num(l.Delay, l.Weight)
	}
	n[3].count(len(m.Events))
	for _, e := range m.Events {
		n[3].count(place(procs, e.To))
		n[3].num(e.At, e.Value)
	}
	for _, p := range m.Procs {
		n[4].count(len(p.Steps))
		for _, s := range p.Steps {
			n[4].count(s.Kind, place(names, s.Name), s.Arg.Kind)
			n[4].num(s.Arg.N)
			if s.Arg.Kind == api.Variable || s.Arg.Name != "" {
				n[4].count(place(names, s.Arg.Name) + 1)
			} else {
				n[4].count(0)
			}
		}
	}
	return [5]string{string(n[0].b), string(n[1].b), string(n[2].b), string(n[3].b), string(n[4].b)}
}

// file is a file's bytes, of bodies with the tags from a first one on.
func file(first int, bodies ...string) []byte {
	b := binary.AppendUvarint([]byte("SAND"), uint64(len(bodies)))
	for i, body := range bodies {
		b = binary.AppendUvarint(append(b, byte(first+i)), uint64(len(body)))
		b = binary.LittleEndian.AppendUint32(b, crc32.ChecksumIEEE([]byte(body)))
	}
	return sealed(append(b, strings.Join(bodies, "")...))
}

// sealed is bytes with their sum behind them.
func sealed(b []byte) []byte {
	return binary.LittleEndian.AppendUint32(bytes.Clone(b), crc32.ChecksumIEEE(b))
}

// plain is a file's bytes, of the bodies that a bundle must have of a model that stands so, right or not.
func plain(m api.Model) []byte {
	parts := bodies(m)
	return file(1, parts[:]...)
}

// encoded holds what Encode answers of a model, right or not.
func encoded(t *testing.T, m api.Model) api.Fault {
	t.Helper()
	var want []byte
	fault := model.Check(m)
	if fault == (api.Fault{}) && m.Version != 3 {
		fault = api.Fault{E: 43}
	}
	if fault == (api.Fault{}) {
		want = plain(canon.Canon(m))
	}
	b, f := bundle.Encode(m)
	if f != fault || !bytes.Equal(b, want) || f != (api.Fault{}) && b != nil {
		t.Fatalf("%#v: %x, %#v; want %x, %#v", m, b, f, want, fault)
	}
	return f
}

// decoded holds what Decode answers of bytes: a right model that is laid down, and has these bytes; else nothing, with an error.
func decoded(t *testing.T, b []byte) (api.Model, api.Errno) {
	t.Helper()
	m, e := bundle.Decode(b)
	if e != api.OK {
		if m.Version != 0 || m.Procs != nil || m.Links != nil || m.Events != nil {
			t.Fatalf("%.300x: %#v, %d", b, m, e)
		}
		return m, e
	}
	if m.Version != 3 || model.Check(m) != (api.Fault{}) || !canon.Is(m) || !bytes.Equal(plain(m), b) {
		t.Fatalf("%.300x: %#v", b, m)
	}
	if again, f := bundle.Encode(m); f != (api.Fault{}) || !bytes.Equal(again, b) {
		t.Fatalf("%.300x, encoded again: %.300x, %#v", b, again, f)
	}
	return m, e
}

// refused holds that bytes aren't decoded, by an error, and that no processes are theirs.
func refused(t *testing.T, b []byte, want api.Errno) {
	t.Helper()
	if m, e := decoded(t, b); e != want {
		t.Fatalf("%.300x: %#v, %d; want %d", b, m, e, want)
	}
	for name, weight := range bundle.Each(b) {
		t.Fatalf("%.300x: %q, %d", b, name, weight)
	}
}
