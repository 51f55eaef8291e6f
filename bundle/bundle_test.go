package bundle_test

import (
	"bytes"
	"encoding/binary"
	"fmt"
	"reflect"
	"slices"
	"strings"
	"testing"

	"sandtable/api"
	"sandtable/bundle"
	"sandtable/canon"
	"sandtable/model"
	"sandtable/sample"
	"sandtable/section"
)

const (
	num    = 1 << 40
	weight = 1 << 20
)

// right are right models of version 3, of all kinds and in no order.
func right() []api.Model {
	all := []api.Model{{Version: 3}, {Version: 3, Procs: []api.Proc{}, Links: []api.Link{}, Events: []api.Event{}}, sample.Model(), bounds(), chain(127), chain(128), chain(129)}
	for s := range sample.Numbers(300) {
		all = append(all, s.Model(3, s.Next(9), s.Next(9), s.Next(9)))
	}
	s := sample.Numbers(1)
	return append(all, s.Model(3, 300, 700, 900))
}

// bounds is a right model whose numbers are at their bounds, and some of whose names stand for several things.
func bounds() api.Model {
	long := strings.Repeat("z", 64)
	return api.Model{
		Version: 3,
		Procs: []api.Proc{
			{Name: long, Weight: weight, Vars: []api.Var{{Name: long, Init: num}, {Name: "a", Init: -num}}, Steps: []api.Step{
				{Kind: api.Put, Name: "a", Arg: api.Arg{N: -num}},
				{Kind: api.Add, Name: long, Arg: api.Arg{N: num}},
				{Kind: api.Mul, Name: "a", Arg: api.Arg{Kind: api.Variable, Name: long}},
				{Kind: api.Mul, Name: "a", Arg: api.Arg{Kind: api.Variable, Name: "a"}},
				{Kind: api.Send, Name: "a", Arg: api.Arg{Kind: api.Value}},
				{Kind: api.Send, Name: long},
			}},
			{Name: "a", Weight: 1},
		},
		Links:  []api.Link{{Name: long, From: long, To: "a", Delay: num, Weight: weight}, {Name: "a", From: long, To: long, Delay: 1, Weight: 1}},
		Events: []api.Event{{To: long, At: num, Value: -num}, {To: "a", At: 0, Value: num}, {To: long, At: num, Value: -num}},
	}
}

// chain is a right model of n processes, each with one variable, one step and one event, and a link to the next one.
func chain(n int) api.Model {
	m := api.Model{Version: 3}
	for i := range n {
		name, next := fmt.Sprintf("p%d", i), fmt.Sprintf("p%d", (i+1)%n)
		m.Procs = append(m.Procs, api.Proc{Name: name, Weight: 1, Vars: []api.Var{{Name: fmt.Sprintf("v%d", i)}}, Steps: []api.Step{{Kind: api.Send, Name: "l" + name, Arg: api.Arg{Kind: api.Variable, Name: fmt.Sprintf("v%d", i)}}}})
		m.Links = append(m.Links, api.Link{Name: "l" + name, From: name, To: next, Delay: 1, Weight: 1})
		m.Events = append(m.Events, api.Event{To: name, At: int64(i % 3)})
	}
	return m
}

// P23.1: bundles, written out: the model of nothing's first.
func TestWrittenOut(t *testing.T) {
	for _, c := range []struct {
		m    api.Model
		want [5]string
	}{
		{api.Model{Version: 3}, [5]string{"\x00", "\x00", "\x00", "\x00", ""}},
		{
			api.Model{Version: 3, Procs: []api.Proc{{Name: "b", Weight: 64}, {Name: "a", Weight: 1}}},
			[5]string{"\x02\x01a\x01b", "\x02\x00\x02\x00\x01\x80\x01\x00", "\x00", "\x00", "\x00\x00"},
		},
		{
			// The link's name and the variable's are the processes' too.
			api.Model{
				Version: 3,
				Procs: []api.Proc{
					{Name: "c", Weight: 3, Vars: []api.Var{{Name: "x", Init: -2}, {Name: "a", Init: 150}}, Steps: []api.Step{
						{Kind: api.Send, Name: "c", Arg: api.Arg{Kind: api.Variable, Name: "a"}},
						{Kind: api.Mul, Name: "x", Arg: api.Arg{N: -1}},
						{Kind: api.Put, Name: "a", Arg: api.Arg{Kind: api.Value}},
						{Kind: api.Add, Name: "x", Arg: api.Arg{Kind: api.Variable, Name: "x"}},
					}},
					{Name: "a", Weight: 1},
					{Name: "bb", Weight: 2, Steps: []api.Step{{Kind: api.Send, Name: "b", Arg: api.Arg{N: 64}}}},
				},
				Links:  []api.Link{{Name: "c", From: "c", To: "a", Delay: 1, Weight: 2}, {Name: "b", From: "bb", To: "c", Delay: 3, Weight: 4}},
				Events: []api.Event{{To: "c", At: 1, Value: -1}, {To: "bb", At: 1, Value: 5}, {To: "c", At: 0, Value: 7}},
			},
			[5]string{
				"\x05\x01a\x01b\x02bb\x01c\x01x",
				"\x03\x00\x02\x00\x02\x04\x00\x03\x06\x02\x00\xac\x02\x04\x03",
				"\x02\x01\x01\x02\x06\x08\x03\x02\x00\x02\x04",
				"\x03\x02\x00\x0e\x01\x02\x0a\x02\x02\x01",
				"\x00\x01\x04\x01\x00\x80\x01\x00\x04\x04\x03\x01\x00\x01\x03\x04\x00\x01\x00\x01\x00\x02\x00\x00\x02\x04\x01\x00\x05",
			},
		},
	} {
		b, f := bundle.Encode(c.m)
		if want := file(1, c.want[:]...); f != (api.Fault{}) || !bytes.Equal(b, want) {
			t.Errorf("%#v: %x, %#v; want %x", c.m, b, f, want)
		}
		list, _ := section.Unpack(b)
		for i, s := range list {
			if int(s.Tag) != i+1 || string(s.Body) != c.want[i] {
				t.Errorf("%#v: section %d %x; want %x", c.m, s.Tag, s.Body, c.want[i])
			}
		}
		if len(list) != 5 {
			t.Errorf("%d sections", len(list))
		}
	}
}

// P23.1: the bundle of each right model, in whichever order its declarations stand.
func TestEncode(t *testing.T) {
	for i, m := range right() {
		if f := encoded(t, m); f != (api.Fault{}) {
			t.Fatalf("%#v: %#v", m, f)
		}
		want, _ := bundle.Encode(m)
		s := sample.Numbers(i)
		for range 3 {
			mixed := s.Mix(m)
			if b, f := bundle.Encode(mixed); f != (api.Fault{}) || !bytes.Equal(b, want) {
				t.Fatalf("%#v: %x, %#v; want %x", mixed, b, f, want)
			}
		}
	}
}

// P23.1: models that are one thing away from a right one, of each version: layer 15's fault comes first, then the version.
func TestNotEncoded(t *testing.T) {
	seen := map[api.Errno]int{}
	for version := range 5 {
		m := sample.Model()
		m.Version = version
		for _, once := range append(sample.Turned(m), m, api.Model{Version: version}) {
			seen[encoded(t, once).E]++
		}
	}
	for _, e := range []api.Errno{api.OK, api.ErrVersion, api.ErrName, api.ErrTwice, api.ErrWeight, api.ErrForm, api.ErrNone, api.ErrOwner, api.ErrRange, api.ErrDelay} {
		if seen[e] < 5 {
			t.Errorf("%d of %d", seen[e], e)
		}
	}
	wrong := sample.Model()
	wrong.Version = 2
	wrong.Events[3].To = "c"
	for i, c := range []struct {
		m api.Model
		f api.Fault
	}{
		{api.Model{}, api.Fault{E: api.ErrVersion}},
		{api.Model{Version: 1}, api.Fault{E: api.ErrVersion}},
		{api.Model{Version: 2}, api.Fault{E: api.ErrVersion}},
		{api.Model{Version: 4}, api.Fault{E: api.ErrVersion}},
		{api.Model{Version: 2, Procs: []api.Proc{{Name: "b"}, {Name: "a"}}}, api.Fault{E: api.ErrVersion}},
		{api.Model{Version: 3, Procs: []api.Proc{{Name: "b", Weight: 1}, {Name: "a"}}}, api.Fault{E: api.ErrWeight, At: 2}},
		{wrong, api.Fault{E: api.ErrNone, At: 10}},
	} {
		if b, f := bundle.Encode(c.m); b != nil || f != c.f {
			t.Errorf("case %d: %x, %#v; want %#v", i, b, f, c.f)
		}
	}
}

// P23.2: what is encoded is decoded, laid down; what is decoded, and encoded, is these bytes again.
func TestDecoded(t *testing.T) {
	for _, m := range right() {
		b, _ := bundle.Encode(m)
		got, e := decoded(t, b)
		if e != api.OK || !canon.Same(got, canon.Canon(m)) {
			t.Fatalf("%#v: %#v, %d", m, got, e)
		}
	}
	for _, m := range sample.Turned(sample.Model()) {
		if b, f := bundle.Encode(m); f == (api.Fault{}) {
			if got, e := decoded(t, b); e != api.OK || !canon.Same(got, canon.Canon(m)) {
				t.Fatalf("%#v: %#v, %d", m, got, e)
			}
		}
	}
}

// P23.1: of models that are wrong, or aren't laid down, what would be their bundles is none.
func TestWrongModels(t *testing.T) {
	laid := canon.Canon(sample.Model())
	was, not, wrong := 0, 0, 0
	tried := func(m api.Model) {
		switch {
		case m.Version != 3: // no bundle tells it
		case model.Check(m) != (api.Fault{}):
			refused(t, plain(m), api.ErrForm)
			wrong++
		case !canon.Is(m):
			refused(t, plain(m), api.ErrForm)
			not++
		default:
			if got, e := decoded(t, plain(m)); e != api.OK || !canon.Same(got, m) {
				t.Fatalf("%#v: %#v, %d", m, got, e)
			}
			was++
		}
	}
	for _, m := range sample.Turned(laid) {
		tried(m)
	}
	for _, m := range sample.Turned(canon.Canon(bounds())) {
		tried(m)
	}
	for i, m := range right() {
		s := sample.Numbers(i)
		tried(s.Mix(m))
		tried(canon.Canon(m))
	}
	if was < 100 || not < 50 || wrong < 200 {
		t.Errorf("%d, %d, %d", was, not, wrong)
	}
}

// P23.1: files that are no bundles, written out: one body is another one than the model's below.
func TestWrongBodies(t *testing.T) {
	right := bodies(small())
	if want := [5]string{"\x05\x01a\x01b\x01l\x01x\x01y", "\x02\x00\x02\x02\x03\x00\x04\x01\x01\x04\x00", "\x01\x02\x00\x01\x0a\x08", "\x02\x00\x02\x0e\x01\x02\x04", "\x03\x01\x03\x02\x00\x00\x02\x03\x00\x02\x00\x04\x02\x01\x00\x04\x00"}; right != want {
		t.Fatalf("%q", right)
	}
	if m, e := decoded(t, plain(small())); e != api.OK || !canon.Same(m, small()) {
		t.Fatalf("%#v, %d", m, e)
	}
	long := strings.Repeat("y", 65)
	for part, list := range [5][]string{
		{
			"",
			"\x00",
			"\x80",
			"\x04\x01a\x01b\x01l\x01x",
			"\x04\x01a\x01b\x01l\x01x\x01y",
			"\x05\x01a\x01b\x01l\x01x",
			"\x06\x01a\x01b\x01l\x01x\x01y",
			"\x06\x01a\x01b\x01l\x01x\x01y\x01z",
			"\x06\x00\x01a\x01b\x01l\x01x\x01y",
			"\x05\x01a\x01b\x01l\x01x\x01y\x00",
			"\x05\x01a\x01b\x01l\x01y\x01x",
			"\x05\x01b\x01a\x01l\x01x\x01y",
			"\x05\x01a\x01b\x01l\x01x\x01x",
			"\x06\x01a\x01b\x01l\x01x\x01x\x01y",
			"\x06\x01a\x01a\x01b\x01l\x01x\x01y",
			"\x05\x01A\x01b\x01l\x01x\x01y",
			"\x05\x00\x01b\x01l\x01x\x01y",
			"\x05\x01a\x01b\x01l\x05value\x01y",
			"\x05\x01a\x01b\x01l\x01x\x41" + long,
			"\x05\x01a\x01b\x01l\x01x\x81\x00y",
			"\x85\x00\x01a\x01b\x01l\x01x\x01y",
			"\xff\xff\xff\xff\xff\xff\xff\xff\xff\x01\x01a\x01b\x01l\x01x\x01y",
		},
		{
			"",
			"\x00",
			"\x00\x00\x02\x02\x03\x00\x04\x01\x01\x04\x00",
			"\x01\x00\x02\x02\x03\x00\x04\x01",
			"\x01\x00\x02\x02\x03\x00\x04\x01\x01\x04\x00",
			"\x03\x00\x02\x02\x03\x00\x04\x01\x01\x04\x00",
			"\x03\x00\x02\x02\x03\x00\x04\x01\x01\x04\x00\x02\x02\x00",
			"\x02\x00\x02\x02\x03\x00\x04\x01\x01\x04",
			"\x02\x00\x02\x02\x03\x00\x04\x01\x01\x04\x00\x00",
			"\x02\x01\x04\x00\x00\x02\x02\x03\x00\x04\x01",
			"\x02\x00\x02\x02\x04\x01\x03\x00\x01\x04\x00",
			"\x02\x00\x00\x02\x03\x00\x04\x01\x01\x04\x00",
			"\x02\x00\x01\x02\x03\x00\x04\x01\x01\x04\x00",
			"\x02\x00\x82\x80\x80\x01\x02\x03\x00\x04\x01\x01\x04\x00",
			"\x02\x00\x02\x02\x03\x00\x04\x01\x00\x04\x00",
			"\x02\x00\x02\x02\x03\x00\x04\x01\x05\x04\x00",
			"\x02\x05\x02\x02\x03\x00\x04\x01\x01\x04\x00",
			"\x02\x00\x02\x02\x03\x00\x05\x01\x01\x04\x00",
			"\x02\x00\x02\x02\x04\x00\x04\x01\x01\x04\x00",
			"\x02\x00\x02\x02\x03\x80\x00\x04\x01\x01\x04\x00",
			"\x02\x00\x02\x02\x03\x82\x80\x80\x80\x80\x40\x04\x01\x01\x04\x00",
			"\x02\x00\x02\x01\x03\x00\x01\x04\x00",
			"\x02\x00\x02\x02\x03\x00\xff\xff\xff\xff\xff\xff\xff\xff\xff\x01\x01\x01\x04\x00",
			"\x02\x00\x02\x02\x03\x00\x04\x01\x01\x04\xff\xff\xff\xff\xff\xff\xff\xff\xff\x01",
		},
		{
			"",
			"\x00",
			"\x00\x02\x00\x01\x0a\x08",
			"\x01\x02\x00\x01\x0a",
			"\x01\x02\x00\x01\x0a\x08\x00",
			"\x02\x02\x00\x01\x0a\x08",
			"\x02\x02\x00\x01\x0a\x08\x02\x00\x01\x0a\x08",
			"\x01\x03\x00\x01\x0a\x08",
			"\x01\x05\x00\x01\x0a\x08",
			"\x01\x02\x01\x00\x0a\x08",
			"\x01\x02\x02\x01\x0a\x08",
			"\x01\x02\x00\x02\x0a\x08",
			"\x01\x02\x00\xff\xff\xff\xff\xff\xff\xff\xff\xff\x01\x0a\x08",
			"\x01\x02\x00\x01\x00\x08",
			"\x01\x02\x00\x01\x09\x08",
			"\x01\x02\x00\x01\x0a\x00",
			"\x01\x02\x00\x01\x0a\x07",
			"\x01\x02\x00\x01\x8a\x00\x08",
		},
		{
			"",
			"\x01\x00\x02\x0e\x01\x02\x04",
			"\x02\x00\x02\x0e",
			"\x02\x00\x02\x0e\x01\x02",
			"\x02\x00\x02\x0e\x01\x02\x04\x00",
			"\x03\x00\x02\x0e\x01\x02\x04",
			"\x02\x01\x02\x04\x00\x02\x0e",
			"\x02\x00\x02\x0e\x02\x02\x04",
			"\x02\x00\x02\x0e\x01\x00\x04",
			"\x02\x00\x02\x0e\x00\x02\x04",
			"\x02\x00\x01\x0e\x01\x02\x04",
			"\x02\x00\x82\x00\x0e\x01\x02\x04",
		},
		{
			"",
			"\x03\x01\x03\x02\x00\x00\x02\x03\x00\x02\x00\x04\x02\x01\x00\x04",
			"\x03\x01\x03\x02\x00\x00\x02\x03\x00\x02\x00\x04\x02\x01\x00\x04\x00\x00",
			"\x02\x01\x03\x02\x00\x00\x02\x03\x00\x02\x00\x04\x02\x01\x00\x04\x00",
			"\x04\x01\x03\x02\x00\x00\x02\x03\x00\x02\x00\x04\x02\x01\x00\x04\x00",
			"\x00\x03\x01\x03\x02\x00\x00\x02\x03\x00\x02\x00\x04\x02\x01\x00\x04",
			"\x03\x00\x03\x02\x00\x00\x02\x03\x00\x02\x00\x04\x02\x01\x00\x04\x00",
			"\x03\x05\x03\x02\x00\x00\x02\x03\x00\x02\x00\x04\x02\x01\x00\x04\x00",
			"\x03\x04\x03\x02\x00\x00\x02\x03\x00\x02\x00\x04\x02\x01\x00\x04\x00",
			"\x03\x01\x02\x02\x00\x00\x02\x03\x00\x02\x00\x04\x02\x01\x00\x04\x00",
			"\x03\x01\x05\x02\x00\x00\x02\x03\x00\x02\x00\x04\x02\x01\x00\x04\x00",
			"\x03\x01\x03\x03\x00\x00\x02\x03\x00\x02\x00\x04\x02\x01\x00\x04\x00",
			"\x03\x01\x03\x02\x02\x00\x02\x03\x00\x02\x00\x04\x02\x01\x00\x04\x00",
			"\x03\x01\x03\x02\x00\x04\x02\x03\x00\x02\x00\x04\x02\x01\x00\x04\x00",
			"\x03\x01\x03\x02\x00\x06\x02\x03\x00\x02\x00\x04\x02\x01\x00\x04\x00",
			"\x03\x01\x03\x02\x00\x00\x02\x03\x00\x02\x01\x04\x02\x01\x00\x04\x00",
			"\x03\x01\x03\x02\x00\x00\x02\x03\x00\x02\x06\x04\x02\x01\x00\x04\x00",
			"\x03\x01\x03\x02\x00\x00\x02\x03\x00\x02\xff\xff\xff\xff\xff\xff\xff\xff\x7f\x04\x02\x01\x00\x04\x00",
			"\x03\x01\x03\x02\x00\x00\x02\x03\x00\x02\x00\x04\x02\x01\x02\x04\x00",
			"\x03\x01\x03\x02\x00\x00\x02\x03\x00\x02\x00\x04\x02\x01\x00\x00\x00",
			"\x03\x01\x03\x02\x00\x00\x02\x03\x00\x02\x00\x04\x02\x01\x00\x03\x00",
			"\x03\x01\x03\x02\x00\x00\x02\x03\x00\x02\x00\x04\x02\x01\x00\x06\x00",
			"\x03\x01\x03\x02\x00\x00\x02\x03\x00\x02\x00\x04\x03\x01\x00\x04\x00",
			"\x03\x01\x03\x02\x00\x00\x02\x03\x00\x02\x00\x04\x02\x01\x00\x84\x00\x00",
		},
	} {
		for _, body := range list {
			turned := right
			turned[part] = body
			refused(t, file(1, turned[:]...), api.ErrForm)
		}
	}
}

// small is a right model, laid down, of two processes, a link and two events.
func small() api.Model {
	return api.Model{
		Version: 3,
		Procs: []api.Proc{
			{Name: "a", Weight: 1, Vars: []api.Var{{Name: "x"}, {Name: "y", Init: -1}}, Steps: []api.Step{
				{Kind: api.Put, Name: "x", Arg: api.Arg{Kind: api.Value}},
				{Kind: api.Add, Name: "x", Arg: api.Arg{N: 1}},
				{Kind: api.Send, Name: "l", Arg: api.Arg{Kind: api.Variable, Name: "x"}},
			}},
			{Name: "b", Weight: 2},
		},
		Links:  []api.Link{{Name: "l", From: "a", To: "b", Delay: 5, Weight: 4}},
		Events: []api.Event{{To: "a", At: 1, Value: 7}, {To: "b", At: 1, Value: 2}},
	}
}

// P23.1: files of other sections than the five, of the model of nothing too.
func TestOtherSections(t *testing.T) {
	for _, m := range []api.Model{{Version: 3}, small(), canon.Canon(sample.Model())} {
		own := bodies(m)
		all := own[:]
		if _, e := decoded(t, file(1, all...)); e != api.OK {
			t.Errorf("%d", e)
		}
		for _, b := range [][]byte{
			file(1),
			file(0, all...),
			file(2, all...),
			file(251, all...),
			file(0, append([]string{""}, all...)...),
			file(1, append(slices.Clone(all), "")...),
			file(1, append(slices.Clone(all), "\x00")...),
			file(1, slices.Repeat(all, 51)...),
		} {
			refused(t, b, api.ErrForm)
		}
		for i := range 5 {
			refused(t, file(1, all[:i]...), api.ErrForm)
			refused(t, file(1+i+1, all[i+1:]...), api.ErrForm)
			var list []section.Section
			for k, body := range all {
				list = append(list, section.Section{Tag: byte(k + 1), Body: []byte(body)})
			}
			b, _ := section.Pack(slices.Delete(slices.Clone(list), i, i+1))
			refused(t, b, api.ErrForm)
			for k := i; k < 5; k++ {
				list[k].Tag++
			}
			b, _ = section.Pack(list)
			refused(t, b, api.ErrForm)
			list[4].Tag = 200
			b, _ = section.Pack(list)
			refused(t, b, api.ErrForm)
		}
	}
}

// P23.1: bytes that are no file: layer 22's errors, in their order.
func TestNoFile(t *testing.T) {
	b := plain(small())
	inner := b[:len(b)-4]
	turned := bytes.Clone(inner)
	turned[len(turned)-1] ^= 1
	for _, c := range []struct {
		b []byte
		e api.Errno
	}{
		{nil, api.ErrShort},
		{[]byte{}, api.ErrShort},
		{[]byte("SAN"), api.ErrShort},
		{[]byte("SAND"), api.ErrSum},
		{inner, api.ErrSum},
		{b[1:], api.ErrSum},
		{append(bytes.Clone(b), 0), api.ErrSum},
		{sealed(nil), api.ErrSign},
		{sealed(inner[1:]), api.ErrSign},
		{sealed(append([]byte("s"), inner[1:]...)), api.ErrSign},
		{sealed([]byte("SAND")), api.ErrForm},
		{sealed(inner[:len(inner)-1]), api.ErrForm},
		{sealed(turned), api.ErrForm},
		{sealed(b), api.ErrForm},
		{file(1), api.ErrForm},
	} {
		refused(t, c.b, c.e)
	}
}

// P23.1, P23.2: of all bytes that are one edit away from a body those alone are decoded that are a right model's.
func TestEdited(t *testing.T) {
	seen := map[api.Errno]int{}
	for _, m := range []api.Model{{Version: 3}, small(), canon.Canon(sample.Model())} {
		for part, body := range bodies(m) {
			for other := range sample.Edits([]byte(body)) {
				turned := bodies(m)
				turned[part] = string(other)
				b := file(1, turned[:]...)
				got, e := decoded(t, b)
				seen[e]++
				if list := slices.Collect(sample.Pairs(bundle.Each(b))); !slices.Equal(list, weights(got)) {
					t.Fatalf("%x: %v", b, list)
				}
				if e == api.OK && canon.Same(got, m) {
					t.Fatalf("%x: as it was", b)
				}
			}
		}
	}
	if len(seen) != 2 || seen[api.OK] < 100 || seen[api.ErrForm] < 1000 {
		t.Errorf("%v", seen)
	}
}

// weights is what Each must go through of a model, laid down.
func weights(m api.Model) []sample.Pair[string, int64] {
	var list []sample.Pair[string, int64]
	for _, p := range m.Procs {
		list = append(list, sample.Pair[string, int64]{A: p.Name, B: p.Weight})
	}
	return list
}

// P23.1, P23.2: short bodies of a few kinds, and bodies of no kind.
func TestAnyBodies(t *testing.T) {
	for _, s := range sample.Texts(3, "\x00", "\x01", "\x02", "\x01a", "\x80") {
		for part := range 5 {
			own := bodies(api.Model{Version: 3, Procs: []api.Proc{{Name: "a", Weight: 1}}})
			own[part] = s
			decoded(t, file(1, own[:]...))
		}
	}
	s := sample.Numbers(1)
	for n := range 300 {
		var own []string
		for range 5 {
			own = append(own, string(s.Bytes(n%30)))
		}
		refused(t, file(1, own...), api.ErrForm)
		own = append([]string{"\x02\x01a\x01b"}, own[1:]...)
		decoded(t, file(1, own...))
	}
}

// P1: numbers of things as great as a number may be, behind which few stand, or none.
func TestGreatNumbers(t *testing.T) {
	for _, n := range []uint64{256, 257, 4096, 4097, 16384, 16385, 282624, 282625, 1 << 31, 1 << 32, 1<<63 - 1, 1 << 63, 1<<64 - 1} {
		great := string(binary.AppendUvarint(nil, n))
		for _, m := range []api.Model{{Version: 3}, small()} {
			for part, body := range bodies(m) {
				for _, tail := range []string{"", body, strings.Repeat("\x00", 100)} {
					own := bodies(m)
					own[part] = great + tail
					refused(t, file(1, own[:]...), api.ErrForm)
				}
			}
		}
		own := bodies(api.Model{Version: 3, Procs: []api.Proc{{Name: "a", Weight: 1}}})
		own[1] = "\x01\x00\x02" + great
		refused(t, file(1, own[:]...), api.ErrForm)
	}
}

// P23.2: with something turned within 32 bits that follow one another, in whichever section, nothing is decoded.
func TestTurned(t *testing.T) {
	for _, m := range []api.Model{{Version: 3}, small(), bounds()} {
		b, _ := bundle.Encode(m)
		for other := range sample.Bursts(b) {
			if got, e := bundle.Decode(other); e != api.ErrSum || got.Version != 0 || got.Procs != nil || got.Links != nil || got.Events != nil {
				t.Fatalf("%x turned into %x: %#v, %d", b, other, got, e)
			}
		}
	}
}

// P23.1: without its last bytes, or its first ones, nothing is decoded, sealed anew or not.
func TestCutOff(t *testing.T) {
	b, _ := bundle.Encode(sample.Model())
	inner := b[:len(b)-4]
	for k := range inner {
		for _, part := range [][]byte{b[:k], b[k+1:], sealed(inner[:k]), sealed(inner[k+1:])} {
			if _, e := decoded(t, part); e == api.OK {
				t.Errorf("%x", part)
			}
		}
	}
}

// P23.1: a bundle's processes, with their weights, again, within themselves too, and stopped at any place.
func TestEach(t *testing.T) {
	for _, m := range right() {
		b, _ := bundle.Encode(m)
		want := weights(canon.Canon(m))
		if len(want) < 50 && !sample.Gone(sample.Pairs(bundle.Each(b)), want) || !slices.Equal(slices.Collect(sample.Pairs(bundle.Each(b))), want) {
			t.Fatalf("%#v: not %v", m, want)
		}
	}
	b, _ := bundle.Encode(small())
	if got := slices.Collect(sample.Pairs(bundle.Each(b))); !slices.Equal(got, []sample.Pair[string, int64]{{A: "a", B: 1}, {A: "b", B: 2}}) {
		t.Errorf("%v", got)
	}
}

// P2: what is handed in, and the memory behind it, isn't turned.
func TestLeft(t *testing.T) {
	for _, m := range append(sample.Turned(sample.Model()), right()...) {
		m = sample.Roomy(m)
		was := sample.Behind(m)
		b, _ := bundle.Encode(m)
		if now := sample.Behind(m); !reflect.DeepEqual(now, was) {
			t.Fatalf("%#v; was %#v", now, was)
		}
		room := append(bytes.Clone(b), "behind"...)
		bundle.Decode(room[:len(b)])
		for range bundle.Each(room[:len(b)]) {
		}
		if !bytes.Equal(room, append(bytes.Clone(b), "behind"...)) {
			t.Fatalf("%x; was %x", room, b)
		}
	}
}

// P2: what is handed in isn't kept: what is answered stays, and what is gone through, if it is written over behind the call, or on the way.
func TestNotKept(t *testing.T) {
	m := sample.Roomy(sample.Model())
	laid := canon.Canon(m)
	b, _ := bundle.Encode(m)
	sample.Spoil(m)
	if !bytes.Equal(b, plain(laid)) {
		t.Errorf("%x", b)
	}
	own := bytes.Clone(b)
	got, _ := bundle.Decode(own)
	all := bundle.Each(own)
	clear(own)
	if !canon.Same(got, laid) {
		t.Errorf("%#v", got)
	}
	if !sample.Gone(sample.Pairs(all), weights(laid)) {
		t.Errorf("%v", slices.Collect(sample.Pairs(all)))
	}
	own = bytes.Clone(b)
	var list []sample.Pair[string, int64]
	for name, weight := range bundle.Each(own) {
		list = append(list, sample.Pair[string, int64]{A: name, B: weight})
		clear(own)
	}
	if !slices.Equal(list, weights(laid)) {
		t.Errorf("%v", list)
	}
	// What was no bundle at the call has no processes, whatever is written over it.
	all = bundle.Each(own)
	copy(own, b)
	for name := range all {
		t.Errorf("%q", name)
	}
}

// P2: what is answered is new memory, spare room too; no two lists of an answer share any.
func TestAnswersAreNew(t *testing.T) {
	m := sample.Model()
	for i := range m.Procs {
		m.Procs[i].Vars = []api.Var{{Name: "x", Init: 1}, {Name: "y", Init: 2}}
		m.Procs[i].Steps = []api.Step{{Kind: api.Add, Name: "x", Arg: api.Arg{Kind: api.Variable, Name: "y"}}}
	}
	b, f := bundle.Encode(m)
	if f != (api.Fault{}) {
		t.Fatalf("%#v", f)
	}
	again, _ := bundle.Encode(m)
	clear(b[:cap(b)])
	if !bytes.Equal(again, plain(canon.Canon(m))) {
		t.Errorf("%x", again)
	}
	was := bytes.Clone(again)
	one, _ := bundle.Decode(again)
	other, _ := bundle.Decode(again)
	sample.Fill(one, 1)
	sample.Fill(other, 101)
	if !sample.Filled(one, 1) || !sample.Filled(other, 101) {
		t.Errorf("lists share memory: %#v, %#v", one, other)
	}
	sample.Spoil(one)
	if other.Procs[0].Name != "a" || !bytes.Equal(again, was) {
		t.Errorf("%#v, %x", other, again)
	}
}

// most is a right model with as many of each as may be, and as many names; but for one process few steps.
func most() api.Model {
	m := api.Model{Version: 3}
	for i := range 4096 {
		p := api.Proc{Name: fmt.Sprintf("p%d", i), Weight: weight}
		for k := range 64 {
			p.Vars = append(p.Vars, api.Var{Name: fmt.Sprintf("v%d_%d", i, k), Init: -num})
		}
		m.Procs = append(m.Procs, p)
	}
	for i := range 16384 {
		m.Links = append(m.Links, api.Link{Name: fmt.Sprintf("l%d", i), From: m.Procs[i%4096].Name, To: m.Procs[i*31%4096].Name, Delay: num, Weight: weight})
		m.Events = append(m.Events, api.Event{To: m.Procs[i*31%4096].Name, At: num, Value: int64(-i)})
	}
	p := &m.Procs[4095]
	for i := range 256 {
		p.Steps = append(p.Steps, api.Step{Kind: api.Mul, Name: p.Vars[i%64].Name, Arg: api.Arg{Kind: api.Variable, Name: p.Vars[63-i%64].Name}})
	}
	return m
}

// P23.1, P23.2: as many of each as may be; one more isn't decoded.
func TestMost(t *testing.T) {
	m := most()
	b, f := bundle.Encode(m)
	if f != (api.Fault{}) {
		t.Fatalf("%#v", f)
	}
	if got, e := bundle.Decode(b); e != api.OK || !canon.Same(got, canon.Canon(m)) {
		t.Errorf("%d bytes: %d", len(b), e)
	}
	few := func(turn func(m *api.Model)) api.Model {
		m := canon.Canon(chain(3))
		turn(&m)
		return canon.Canon(m)
	}
	for i, turn := range []func(m *api.Model, n int){
		func(m *api.Model, n int) {
			for i := range 4096 - 3 + n {
				m.Procs = append(m.Procs, api.Proc{Name: fmt.Sprintf("q%d", i), Weight: 1})
			}
		},
		func(m *api.Model, n int) {
			for i := range 64 - 1 + n {
				m.Procs[1].Vars = append(m.Procs[1].Vars, api.Var{Name: fmt.Sprintf("w%d", i)})
			}
		},
		func(m *api.Model, n int) {
			m.Procs[1].Steps = slices.Repeat(m.Procs[1].Steps, 256+n)
		},
		func(m *api.Model, n int) {
			for i := range 16384 - 3 + n {
				m.Links = append(m.Links, api.Link{Name: fmt.Sprintf("m%d", i), From: "p0", To: "p0", Delay: 1, Weight: 1})
			}
		},
		func(m *api.Model, n int) {
			m.Events = append(m.Events, make([]api.Event, 16384-3+n)...)
			for i := range m.Events {
				m.Events[i].To = "p0"
			}
		},
	} {
		full, over := few(func(m *api.Model) { turn(m, 0) }), few(func(m *api.Model) { turn(m, 1) })
		if got, e := bundle.Decode(plain(full)); e != api.OK || !canon.Same(got, full) {
			t.Errorf("case %d: %d", i, e)
		}
		if _, e := bundle.Decode(plain(over)); e != api.ErrForm {
			t.Errorf("case %d, one more: %d", i, e)
		}
	}
}

// The chapter's example.
func TestExample(t *testing.T) {
	b, f := bundle.Encode(api.Model{Version: 3})
	list, e := section.Unpack(b)
	if f != (api.Fault{}) || e != api.OK || len(list) != 5 {
		t.Errorf("%#v, %d, %d sections", f, e, len(list))
	}
	if m, e := bundle.Decode(b); e != api.OK || !canon.Same(m, api.Model{Version: 3}) {
		t.Errorf("%#v, %d", m, e)
	}
}
