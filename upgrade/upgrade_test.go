package upgrade_test

import (
	"reflect"
	"slices"
	"testing"

	"sandtable/api"
	"sandtable/canon"
	"sandtable/copies"
	"sandtable/model"
	"sandtable/sample"
	"sandtable/upgrade"
)

const (
	num  = 1 << 40
	most = 1099511627 // the greatest delay of version 1 that version 2 has
)

// models are models of all kinds and versions: right ones, with delays that may be upgraded and ones that may not, and ones that are one thing away from right.
func models() []api.Model {
	var all []api.Model
	for version := range 5 {
		m := sample.Model()
		m.Version = version
		all = append(all, m, light(m), api.Model{Version: version})
		all = append(all, sample.Turned(m)...)
		all = append(all, sample.Turned(light(m))...)
	}
	for s := range sample.Numbers(300) {
		m := s.Model(1+s.Next(3), s.Next(6), s.Next(6), s.Next(6))
		all = append(all, m, slow(&s, m))
	}
	return all
}

// light is a model without any weights.
func light(m api.Model) api.Model {
	m = copies.Model(m)
	for i := range m.Procs {
		m.Procs[i].Weight = 0
	}
	for i := range m.Links {
		m.Links[i].Weight = 0
	}
	return m
}

// slow is a model with long delays.
func slow(s *sample.Numbers, m api.Model) api.Model {
	m = copies.Model(m)
	delays := []int64{1, 999, 1 << 20, most - 1, most, most, most + 1, num / 2, num - 1, num}
	for i := range m.Links {
		m.Links[i].Delay = delays[s.Next(len(delays))]
	}
	return m
}

// plain is what Up must answer.
func plain(m api.Model) (api.Model, api.Fault) {
	if f := model.Check(m); f != (api.Fault{}) {
		return api.Model{}, f
	}
	if m.Version == 3 {
		return api.Model{}, api.Fault{E: 43}
	}
	up := copies.Model(m)
	if m.Version == 1 {
		up.Version = 2
		for i := len(m.Links) - 1; i >= 0; i-- {
			up.Links[i].Delay = 1000 * m.Links[i].Delay
		}
		if at := slices.IndexFunc(m.Links, func(l api.Link) bool { return l.Delay*1000 > num }); at >= 0 {
			return api.Model{}, api.Fault{E: 30, At: len(m.Procs) + 1 + at}
		}
		return up, api.Fault{}
	}
	up.Version = 3
	for i := range m.Procs {
		if m.Procs[i].Weight == 0 {
			up.Procs[i].Weight = 1
		}
	}
	for i := range m.Links {
		if m.Links[i].Weight == 0 {
			up.Links[i].Weight = 1
		}
	}
	return up, api.Fault{}
}

// ways is what Ways must go through, and why it goes no further.
func ways(m api.Model) (list []api.Model, f api.Fault) {
	if f = model.Check(m); f != (api.Fault{}) {
		return nil, f
	}
	for f == (api.Fault{}) {
		list = append(list, m)
		m, f = plain(m)
	}
	return list, f
}

// latest is what Latest must answer.
func latest(m api.Model) (api.Model, api.Fault) {
	list, f := ways(m)
	if len(list) == 0 || list[len(list)-1].Version < 3 {
		return api.Model{}, f
	}
	return list[len(list)-1], api.Fault{}
}

// agrees tells whether a model and a fault are those that must be: without a fault, list by list; with one, there is nothing.
func agrees(got api.Model, f api.Fault, want api.Model, fault api.Fault) bool {
	if fault != (api.Fault{}) {
		return f == fault && reflect.DeepEqual(got, api.Model{})
	}
	return f == fault && canon.Same(got, want)
}

// P20.1: of all models, what they are one up, their latest version, and their ways there.
func TestAll(t *testing.T) {
	seen := map[api.Errno]int{}
	for _, m := range models() {
		got, f := upgrade.Up(m)
		if want, fault := plain(m); !agrees(got, f, want, fault) {
			t.Fatalf("%#v: %#v, %#v; want %#v, %#v", m, got, f, want, fault)
		}
		seen[f.E]++
		got, f = upgrade.Latest(m)
		if want, fault := latest(m); !agrees(got, f, want, fault) {
			t.Fatalf("latest of %#v: %#v, %#v; want %#v, %#v", m, got, f, want, fault)
		}
		want, _ := ways(m)
		if got := slices.Collect(upgrade.Ways(m)); !slices.EqualFunc(got, want, canon.Same) {
			t.Fatalf("ways of %#v: %#v; want %#v", m, got, want)
		}
	}
	for _, e := range []api.Errno{api.OK, api.ErrVersion, api.ErrOver, api.ErrName, api.ErrTwice, api.ErrWeight, api.ErrForm, api.ErrNone, api.ErrOwner, api.ErrRange, api.ErrDelay} {
		if seen[e] < 5 {
			t.Errorf("%d of %d", seen[e], e)
		}
	}
}

// P20.2: what is upgraded is right, and has the same names, in their order; a model of version 3 is its own latest one.
func TestRightAgain(t *testing.T) {
	up, own := 0, 0
	for _, m := range models() {
		names := slices.Collect(model.Names(m))
		held := func(got api.Model, version int) {
			if f := model.Check(got); got.Version != version || f != (api.Fault{}) || !slices.Equal(slices.Collect(model.Names(got)), names) {
				t.Fatalf("%#v: %#v, %#v", m, got, f)
			}
			up++
		}
		if got, f := upgrade.Up(m); f == (api.Fault{}) {
			held(got, m.Version+1)
		}
		if got, f := upgrade.Latest(m); f == (api.Fault{}) {
			held(got, 3)
		}
		version := m.Version
		for got := range upgrade.Ways(m) {
			held(got, version)
			version++
		}
		if m.Version == 3 && model.Check(m) == (api.Fault{}) {
			if got, f := upgrade.Latest(m); f != (api.Fault{}) || !canon.Same(got, m) {
				t.Fatalf("%#v: %#v, %#v", m, got, f)
			}
			own++
		}
	}
	if up < 500 || own < 50 {
		t.Errorf("%d, %d", up, own)
	}
}

// two is a right model of a version, of two processes and two links with these delays.
func two(version int, a, b int64) api.Model {
	return api.Model{
		Version: version,
		Procs:   []api.Proc{{Name: "b", Weight: 2}, {Name: "a", Weight: 1 << 20, Vars: []api.Var{{Name: "x", Init: 5}}, Steps: []api.Step{{Kind: api.Send, Name: "l", Arg: api.Arg{N: 5}}}}},
		Links:   []api.Link{{Name: "l", From: "a", To: "b", Delay: a, Weight: 1 << 20}, {Name: "k", From: "b", To: "b", Delay: b, Weight: 3}},
		Events:  []api.Event{{To: "b", At: 5, Value: 5}},
	}
}

// P20.1: delays and weights, written out: a thousand times as much, up to 2^40; 1 for 0, and nothing else is turned.
func TestWrittenOut(t *testing.T) {
	if got, f := upgrade.Up(two(1, 5, 1)); f != (api.Fault{}) || !canon.Same(got, two(2, 5000, 1000)) {
		t.Errorf("%#v, %#v", got, f)
	}
	if got, f := upgrade.Up(two(1, most, 7)); f != (api.Fault{}) || !canon.Same(got, two(2, 1099511627000, 7000)) {
		t.Errorf("%#v, %#v", got, f)
	}
	if got, f := upgrade.Up(two(2, num, 1)); f != (api.Fault{}) || !canon.Same(got, two(3, num, 1)) {
		t.Errorf("%#v, %#v", got, f)
	}
	if got, f := upgrade.Latest(two(1, 5, most)); f != (api.Fault{}) || !canon.Same(got, two(3, 5000, 1099511627000)) {
		t.Errorf("%#v, %#v", got, f)
	}
	m := two(1, 5, 1)
	m.Procs[0].Weight, m.Links[1].Weight = 0, 0
	want := two(2, 5000, 1000)
	want.Procs[0].Weight, want.Links[1].Weight = 0, 0
	if got, f := upgrade.Up(m); f != (api.Fault{}) || !canon.Same(got, want) {
		t.Errorf("%#v, %#v", got, f)
	}
	want.Version, want.Procs[0].Weight, want.Links[1].Weight = 3, 1, 1
	if got, f := upgrade.Latest(m); f != (api.Fault{}) || !canon.Same(got, want) {
		t.Errorf("%#v, %#v", got, f)
	}
	m.Version = 2
	if got, f := upgrade.Up(m); f != (api.Fault{}) || got.Procs[0].Weight != 1 || got.Procs[1].Weight != 1<<20 || got.Links[0].Weight != 1<<20 || got.Links[1].Weight != 1 || got.Links[0].Delay != 5 {
		t.Errorf("%#v, %#v", got, f)
	}
}

// P20.1: faults, written out, in their order.
func TestFaults(t *testing.T) {
	turned := func(m api.Model, turn func(m *api.Model)) api.Model {
		turn(&m)
		return m
	}
	for i, c := range []struct {
		m          api.Model
		up, latest api.Fault
	}{
		{api.Model{}, api.Fault{E: api.ErrVersion}, api.Fault{E: api.ErrVersion}},
		{api.Model{Version: 4}, api.Fault{E: api.ErrVersion}, api.Fault{E: api.ErrVersion}},
		{api.Model{Version: -1}, api.Fault{E: api.ErrVersion}, api.Fault{E: api.ErrVersion}},
		{api.Model{Version: 3}, api.Fault{E: api.ErrVersion}, api.Fault{}},
		{api.Model{Version: 2}, api.Fault{}, api.Fault{}},
		{api.Model{Version: 1}, api.Fault{}, api.Fault{}},
		{two(3, 1, num), api.Fault{E: api.ErrVersion}, api.Fault{}},
		{two(3, 0, 1), api.Fault{E: api.ErrDelay, At: 3}, api.Fault{E: api.ErrDelay, At: 3}},
		{two(2, num, num), api.Fault{}, api.Fault{}},
		{two(2, num, num+1), api.Fault{E: api.ErrDelay, At: 4}, api.Fault{E: api.ErrDelay, At: 4}},
		{two(1, most+1, 1), api.Fault{E: api.ErrOver, At: 3}, api.Fault{E: api.ErrOver, At: 3}},
		{two(1, 1, most+1), api.Fault{E: api.ErrOver, At: 4}, api.Fault{E: api.ErrOver, At: 4}},
		{two(1, most+1, num), api.Fault{E: api.ErrOver, At: 3}, api.Fault{E: api.ErrOver, At: 3}},
		{two(1, num, 0), api.Fault{E: api.ErrDelay, At: 4}, api.Fault{E: api.ErrDelay, At: 4}},
		{two(1, num+1, 1), api.Fault{E: api.ErrDelay, At: 3}, api.Fault{E: api.ErrDelay, At: 3}},
		{two(1, 1<<62, 1), api.Fault{E: api.ErrDelay, At: 3}, api.Fault{E: api.ErrDelay, At: 3}},
		{turned(two(1, num, num), func(m *api.Model) { m.Events[0].To = "c" }), api.Fault{E: api.ErrNone, At: 5}, api.Fault{E: api.ErrNone, At: 5}},
		{turned(two(2, 1, 1), func(m *api.Model) { m.Procs[0].Weight = -1 }), api.Fault{E: api.ErrWeight, At: 1}, api.Fault{E: api.ErrWeight, At: 1}},
		{turned(two(3, 1, 1), func(m *api.Model) { m.Links[1].Weight = 0 }), api.Fault{E: api.ErrWeight, At: 4}, api.Fault{E: api.ErrWeight, At: 4}},
		{turned(two(1, num, 1), func(m *api.Model) { m.Procs = m.Procs[:1] }), api.Fault{E: api.ErrNone, At: 2}, api.Fault{E: api.ErrNone, At: 2}},
		{turned(two(1, 1, 1), func(m *api.Model) { m.Events = make([]api.Event, 16385) }), api.Fault{E: api.ErrMany}, api.Fault{E: api.ErrMany}},
	} {
		if got, f := upgrade.Up(c.m); f != c.up || (f.E != api.OK) != reflect.DeepEqual(got, api.Model{}) {
			t.Errorf("case %d: %#v, %#v", i, got, f)
		}
		if got, f := upgrade.Latest(c.m); f != c.latest || (f.E != api.OK) != reflect.DeepEqual(got, api.Model{}) {
			t.Errorf("case %d: latest %#v, %#v", i, got, f)
		}
	}
}

// P20.1: the versions that are gone through: from the model's own on, until a fault.
func TestWays(t *testing.T) {
	wrong := two(1, 5, 5)
	wrong.Links[0].Name = "K"
	for i, c := range []struct {
		m    api.Model
		want []api.Model
	}{
		{two(1, 5, 7), []api.Model{two(1, 5, 7), two(2, 5000, 7000), two(3, 5000, 7000)}},
		{two(2, 5, 7), []api.Model{two(2, 5, 7), two(3, 5, 7)}},
		{two(3, 5, 7), []api.Model{two(3, 5, 7)}},
		{two(1, 5, num), []api.Model{two(1, 5, num)}},
		{wrong, nil},
		{api.Model{}, nil},
		{api.Model{Version: 4}, nil},
	} {
		if got := slices.Collect(upgrade.Ways(c.m)); !slices.EqualFunc(got, c.want, canon.Same) {
			t.Errorf("case %d: %#v; want %#v", i, got, c.want)
		}
	}
}

// P20.1: ways may be gone through again, within themselves too, and stopped at any place; what they hand out may be written over on the way.
func TestWaysAgain(t *testing.T) {
	want := []api.Model{two(1, 5, 7), two(2, 5000, 7000), two(3, 5000, 7000)}
	seq := upgrade.Ways(two(1, 5, 7))
	for stop := 1; stop <= len(want)+1; stop++ {
		n := 0
		seq(func(m api.Model) bool {
			if n == len(want) || !canon.Same(m, want[n]) {
				t.Fatalf("stopped at %d: %#v", stop, m)
			}
			sample.Spoil(m)
			n++
			return n < stop
		})
		if n != min(stop, len(want)) {
			t.Errorf("stopped at %d: %d", stop, n)
		}
	}
	rounds := 0
	for m := range seq {
		for own := range seq {
			sample.Spoil(own)
			rounds++
		}
		if !canon.Same(m, want[m.Version-1]) {
			t.Errorf("%#v", m)
		}
	}
	if rounds != len(want)*len(want) {
		t.Errorf("%d rounds within rounds", rounds)
	}
}

// P20.1: nothing is made behind the last one that is asked for.
func TestNoMoreIsMade(t *testing.T) {
	s := sample.Numbers(1)
	m := s.Model(1, 2000, 10, 10)
	seq := upgrade.Ways(m)
	none := testing.AllocsPerRun(5, func() { seq = upgrade.Ways(m) })
	one := testing.AllocsPerRun(5, func() { seq(func(api.Model) bool { return false }) })
	all := testing.AllocsPerRun(5, func() { seq(func(api.Model) bool { return true }) })
	if all-none < 2000 || all-one < 2000 {
		t.Errorf("%v things made for none, %v for one, %v for all", none, one, all)
	}
}

// P2: what is handed in, and the memory behind it, isn't turned.
func TestModelIsLeft(t *testing.T) {
	for _, m := range models() {
		m = sample.Roomy(m)
		was := sample.Behind(m)
		upgrade.Up(m)
		upgrade.Latest(m)
		for range upgrade.Ways(m) {
		}
		if now := sample.Behind(m); !reflect.DeepEqual(now, was) {
			t.Fatalf("%#v; was %#v", now, was)
		}
	}
}

// alike is a right model of a version, with room behind its lists, whose processes have the same memory for their lists.
func alike(version int) api.Model {
	m := sample.Model()
	m.Version = version
	for i := range m.Procs {
		m.Procs[i].Vars = []api.Var{{Name: "x", Init: 1}, {Name: "y", Init: 2}}
		m.Procs[i].Steps = []api.Step{{Kind: api.Add, Name: "x", Arg: api.Arg{Kind: api.Variable, Name: "y"}}}
	}
	m = sample.Roomy(m)
	for i := range m.Procs {
		m.Procs[i].Vars, m.Procs[i].Steps = m.Procs[0].Vars, m.Procs[0].Steps
	}
	return m
}

// P2: what is answered is a copy, to the last list and the room behind it; no two of its lists share any, even if those of the model do.
func TestAnswersAreCopies(t *testing.T) {
	for version := 1; version <= 3; version++ {
		m := alike(version)
		was := sample.Behind(m)
		var answers []api.Model
		if up, f := upgrade.Up(m); f == (api.Fault{}) {
			answers = append(answers, up)
		}
		last, _ := upgrade.Latest(m)
		again, _ := upgrade.Latest(m)
		answers = append(answers, last, again)
		answers = append(answers, slices.Collect(upgrade.Ways(m))...)
		answers = append(answers, slices.Collect(upgrade.Ways(m))...)
		for i, a := range answers {
			sample.Fill(a, int64(1+100*i))
		}
		for i, a := range answers {
			if a.Version == 0 || !sample.Filled(a, int64(1+100*i)) {
				t.Errorf("version %d: lists of answer %d share memory", version, i)
			}
		}
		for i, a := range answers {
			sample.Spoil(a)
			for _, later := range answers[i+1:] {
				if later.Procs[0].Name == "over" {
					t.Errorf("version %d: processes of answer %d share memory", version, i)
				}
			}
		}
		if now := sample.Behind(m); !reflect.DeepEqual(now, was) {
			t.Errorf("%#v; was %#v", now, was)
		}
	}
}

// P2: what is handed in isn't kept: what is answered stays, and what is gone through, if it is written over behind the call, or on the way.
func TestModelIsNotKept(t *testing.T) {
	for version := 1; version <= 3; version++ {
		want, _ := ways(alike(version))
		m := alike(version)
		last, _ := upgrade.Latest(m)
		up, _ := upgrade.Up(m)
		seq := upgrade.Ways(m)
		sample.Spoil(m)
		if !canon.Same(last, want[len(want)-1]) || version < 3 && !canon.Same(up, want[1]) {
			t.Errorf("version %d: %#v, %#v", version, last, up)
		}
		if got := slices.Collect(seq); !slices.EqualFunc(got, want, canon.Same) {
			t.Errorf("version %d: %#v", version, got)
		}
		m = alike(version)
		var got []api.Model
		for own := range upgrade.Ways(m) {
			got = append(got, own)
			sample.Spoil(m)
		}
		if !slices.EqualFunc(got, want, canon.Same) {
			t.Errorf("version %d, on the way: %#v", version, got)
		}
	}
}

// P20.1: as many of each as may be.
func TestMany(t *testing.T) {
	s := sample.Numbers(1)
	m := s.Model(1, 4096, 16384, 16384)
	m.Links[16383].Delay = most
	want, _ := latest(m)
	if got, f := upgrade.Latest(m); f != (api.Fault{}) || got.Links[16383].Delay != 1099511627000 || !canon.Same(got, want) {
		t.Errorf("%#v", f)
	}
	m.Links[16383].Delay++
	if got, f := upgrade.Latest(m); f != (api.Fault{E: api.ErrOver, At: 4096 + 16384}) || !reflect.DeepEqual(got, api.Model{}) {
		t.Errorf("%#v", f)
	}
}

// The chapter's example.
func TestExample(t *testing.T) {
	m := api.Model{Version: 1, Procs: []api.Proc{{Name: "a"}}, Links: []api.Link{{Name: "l", From: "a", To: "a", Delay: 5}}}
	if got, f := upgrade.Latest(m); f != (api.Fault{}) || got.Version != 3 || got.Links[0].Delay != 5000 {
		t.Errorf("%#v, %#v", got, f)
	}
}
