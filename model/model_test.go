package model_test

import (
	"math"
	"reflect"
	"slices"
	"strings"
	"testing"

	"sandtable/api"
	"sandtable/copies"
	"sandtable/model"
	"sandtable/sample"
)

const (
	num    = 1 << 40
	weight = 1 << 20
)

// P15.1: a model that has each kind of thing, and all that are one thing away from it, or two, in each version.
func TestCheckTurned(t *testing.T) {
	seen := map[api.Errno]int{}
	for version := 1; version <= 3; version++ {
		m := sample.Model()
		m.Version = version
		if f := checked(t, m); f != (api.Fault{}) {
			t.Errorf("version %d: %#v", version, f)
		}
		for _, once := range sample.Turned(m) {
			seen[checked(t, once).E]++
			for _, twice := range sample.Turned(once) {
				seen[checked(t, twice).E]++
			}
		}
	}
	for _, e := range []api.Errno{api.OK, api.ErrVersion, api.ErrName, api.ErrTwice, api.ErrWeight, api.ErrForm, api.ErrNone, api.ErrOwner, api.ErrRange, api.ErrDelay} {
		if seen[e] == 0 {
			t.Errorf("no model with %d", e)
		}
	}
}

// P15.1: right models of all sizes, small ones, and all that are one thing away from them.
func TestCheckMixed(t *testing.T) {
	for s := range sample.Numbers(60) {
		m := s.Model(1+s.Next(3), s.Next(4), s.Next(4), s.Next(4))
		if f := checked(t, m); f != (api.Fault{}) {
			t.Errorf("%#v: %#v", m, f)
		}
		for _, once := range sample.Turned(m) {
			checked(t, once)
		}
	}
	for s := range sample.Numbers(10) {
		if m := s.Model(3, 200, 300, 300); checked(t, m) != (api.Fault{}) {
			t.Errorf("of many: %d", s)
		}
	}
}

// one is a right model in which nothing is but one process.
func one(p api.Proc) api.Model {
	return api.Model{Version: 3, Procs: []api.Proc{p}}
}

// P15.1: of a model of nothing nothing is wrong, if it has a version.
func TestCheckNothing(t *testing.T) {
	for version := -5; version < 10; version++ {
		want := api.Fault{}
		if version < 1 || version > 3 {
			want.E = api.ErrVersion
		}
		if f := model.Check(api.Model{Version: version}); f != want {
			t.Errorf("%d: %#v", version, f)
		}
		if f := model.Check(api.Model{Version: version, Procs: []api.Proc{}, Links: []api.Link{}, Events: []api.Event{}}); f != want {
			t.Errorf("%d, empty lists: %#v", version, f)
		}
	}
	for _, version := range []int{math.MaxInt, math.MinInt, 1 << 32, 1<<32 + 1, 1<<32 + 3, 1<<62 + 1} {
		if f := model.Check(api.Model{Version: version}); f != (api.Fault{E: api.ErrVersion}) {
			t.Errorf("%d: %#v", version, f)
		}
	}
}

// P15.1: each number at its bounds, and beyond them.
func TestCheckBounds(t *testing.T) {
	for name, c := range map[string]struct {
		field     func(m *api.Model) *int64
		low, high int64
		f         api.Fault
	}{
		"a process's weight": {func(m *api.Model) *int64 { return &m.Procs[1].Weight }, 1, weight, api.Fault{E: api.ErrWeight, At: 2}},
		"Init":               {func(m *api.Model) *int64 { return &m.Procs[1].Vars[0].Init }, -num, num, api.Fault{E: api.ErrRange, At: 2}},
		"a step's number":    {func(m *api.Model) *int64 { return &m.Procs[1].Steps[2].Arg.N }, -num, num, api.Fault{E: api.ErrRange, At: 2}},
		"what is sent":       {func(m *api.Model) *int64 { return &m.Procs[0].Steps[1].Arg.N }, -num, num, api.Fault{E: api.ErrRange, At: 1}},
		"a variable's N":     {func(m *api.Model) *int64 { return &m.Procs[0].Steps[0].Arg.N }, 0, 0, api.Fault{E: api.ErrForm, At: 1}},
		"the value's N":      {func(m *api.Model) *int64 { return &m.Procs[1].Steps[0].Arg.N }, 0, 0, api.Fault{E: api.ErrForm, At: 2}},
		"Delay":              {func(m *api.Model) *int64 { return &m.Links[1].Delay }, 1, num, api.Fault{E: api.ErrDelay, At: 5}},
		"a link's weight":    {func(m *api.Model) *int64 { return &m.Links[1].Weight }, 1, weight, api.Fault{E: api.ErrWeight, At: 5}},
		"At":                 {func(m *api.Model) *int64 { return &m.Events[3].At }, 0, num, api.Fault{E: api.ErrRange, At: 10}},
		"Value":              {func(m *api.Model) *int64 { return &m.Events[3].Value }, -num, num, api.Fault{E: api.ErrRange, At: 10}},
	} {
		for _, bound := range []int64{c.low, c.high, 0, math.MinInt64 + 1, math.MaxInt64 - 1} {
			for _, n := range []int64{bound - 1, bound, bound + 1} {
				for version := 1; version <= 3; version++ {
					m := sample.Model()
					m.Version = version
					*c.field(&m) = n
					want := c.f
					if c.low <= n && n <= c.high || c.f.E == api.ErrWeight && n == 0 && version < 3 {
						want = api.Fault{}
					}
					if f := model.Check(m); f != want {
						t.Errorf("%s of %d, version %d: %#v; want %#v", name, n, version, f, want)
					}
				}
			}
		}
	}
}

// P15.1: kinds of steps and of arguments, and none.
func TestCheckKinds(t *testing.T) {
	for _, kind := range []int{math.MinInt, -1, 0, 1, 2, 3, 4, 5, 1<<32 + 1, math.MaxInt} {
		for _, arg := range []int{math.MinInt, -1, 0, 1, 2, 3, 1 << 32, math.MaxInt} {
			m := sample.Model()
			s := &m.Procs[1].Steps[1] // a has both a variable and a link x
			s.Kind, s.Arg.Kind = kind, arg
			if arg != api.Variable {
				s.Arg.Name = ""
			}
			want := api.Fault{E: api.ErrForm, At: 2}
			if kind >= 1 && kind <= 4 && arg >= 0 && arg <= 2 {
				want = api.Fault{}
			}
			if f := model.Check(m); f != want {
				t.Errorf("%d of %d: %#v; want %#v", kind, arg, f, want)
			}
		}
	}
}

// P15.1: names of each kind, right ones and others; value is no variable's name, but may be another thing's.
func TestCheckNames(t *testing.T) {
	for _, name := range []string{"", "q", "value", "values", "Value", "_q", "q_", "9q", "q9", "q q", "q\x00", "é", "\xff", strings.Repeat("q", 64), strings.Repeat("q", 65), strings.Repeat("q", 1<<20)} {
		bad := api.OK
		if !rightName(name) {
			bad = api.ErrName
		}
		p := one(api.Proc{Name: name, Weight: 1})
		p.Events = []api.Event{{To: name}}
		l := one(api.Proc{Name: "p", Weight: 1})
		l.Links = []api.Link{{Name: name, From: "p", To: "p", Delay: 1, Weight: 1}}
		v := one(api.Proc{Name: "p", Weight: 1, Vars: []api.Var{{Name: name}}})
		if f := model.Check(p); f.E != bad || bad != api.OK && f.At != 1 {
			t.Errorf("process %.80q: %#v", name, f)
		}
		if f := model.Check(l); f.E != bad || bad != api.OK && f.At != 2 {
			t.Errorf("link %.80q: %#v", name, f)
		}
		if name == "value" {
			bad = api.ErrName
		}
		if f := model.Check(v); f.E != bad || bad != api.OK && f.At != 1 {
			t.Errorf("variable %.80q: %#v", name, f)
		}
	}
}

// fault is what Check must answer behind a turn.
type fault struct {
	turn func(m *api.Model)
	e    api.Errno
	at   int
}

// peeled holds that of a model in which much is wrong, mended thing by thing, the next one is told.
func peeled(t *testing.T, m api.Model, list []fault) {
	t.Helper()
	for i, c := range list {
		c.turn(&m)
		if f := model.Check(m); f != (api.Fault{E: c.e, At: c.at}) {
			t.Errorf("%d: %#v; want %d, %d", i, f, c.e, c.at)
		}
	}
}

// P15.1: what is wrong with a process is told in order.
func TestCheckProcOrder(t *testing.T) {
	m := api.Model{Version: 4, Procs: make([]api.Proc, 4097), Links: make([]api.Link, 16385), Events: make([]api.Event, 16385)}
	m.Procs[0] = api.Proc{Name: "a", Weight: 1}
	m.Procs[1] = api.Proc{Name: "A", Weight: -1, Vars: make([]api.Var, 65), Steps: make([]api.Step, 257)}
	v := func(m *api.Model) *api.Var { return &m.Procs[1].Vars[1] }
	s := func(m *api.Model) *api.Step { return &m.Procs[1].Steps[0] }
	peeled(t, m, []fault{
		{func(m *api.Model) {}, api.ErrVersion, 0},
		{func(m *api.Model) { m.Version = 3 }, api.ErrMany, 0},
		{func(m *api.Model) { m.Procs = m.Procs[:2] }, api.ErrMany, 0},
		{func(m *api.Model) { m.Links = m.Links[:2] }, api.ErrMany, 0},
		{func(m *api.Model) { m.Events = m.Events[:1] }, api.ErrName, 2},
		{func(m *api.Model) { m.Procs[1].Name = "a" }, api.ErrTwice, 2},
		{func(m *api.Model) { m.Procs[1].Name = "b" }, api.ErrWeight, 2},
		{func(m *api.Model) { m.Procs[1].Weight = 1 }, api.ErrMany, 2},
		{func(m *api.Model) { m.Procs[1].Vars = m.Procs[1].Vars[:2] }, api.ErrMany, 2},
		{func(m *api.Model) { m.Procs[1].Steps = m.Procs[1].Steps[:1] }, api.ErrName, 2},
		{func(m *api.Model) { m.Procs[1].Vars[0].Name = "x"; v(m).Name, v(m).Init = "value", num+1 }, api.ErrName, 2},
		{func(m *api.Model) { v(m).Name = "x" }, api.ErrTwice, 2},
		{func(m *api.Model) { v(m).Name = "y" }, api.ErrRange, 2},
		{func(m *api.Model) {
			v(m).Init = 0
			*s(m) = api.Step{Kind: 1, Arg: api.Arg{Kind: 3, N: num + 1, Name: "z"}}
		}, api.ErrForm, 2},
		{func(m *api.Model) { s(m).Kind, s(m).Arg.Kind = 0, 0 }, api.ErrForm, 2},
		{func(m *api.Model) { s(m).Kind = 1 }, api.ErrNone, 2},
		{func(m *api.Model) { s(m).Name = "x" }, api.ErrRange, 2},
		{func(m *api.Model) { s(m).Arg.N = 1 }, api.ErrForm, 2},
		{func(m *api.Model) { s(m).Arg.Kind = 1 }, api.ErrForm, 2},
		{func(m *api.Model) { s(m).Arg.N = 0 }, api.ErrNone, 2},
		{func(m *api.Model) { s(m).Arg.Name = "" }, api.ErrNone, 2},
		{func(m *api.Model) { s(m).Arg.Kind, s(m).Arg.Name = 2, "x" }, api.ErrForm, 2},
		{func(m *api.Model) { s(m).Arg.N, s(m).Arg.Name = 1, "" }, api.ErrForm, 2},
		{func(m *api.Model) { s(m).Kind = 4 }, api.ErrNone, 2},
		{func(m *api.Model) {
			m.Links[0] = api.Link{Name: "x", From: "a"}
			m.Links[1] = api.Link{Name: "x", From: "b"}
		}, api.ErrOwner, 2},
		{func(m *api.Model) { m.Links[0].From = "b" }, api.ErrForm, 2},
		{func(m *api.Model) { s(m).Arg.N = 0 }, api.ErrNone, 3},
	})
}

// P15.1: what is wrong with a link, or an event, is told in order.
func TestCheckLinkOrder(t *testing.T) {
	m := api.Model{Version: 3, Procs: []api.Proc{{Name: "a", Weight: 1}}}
	m.Links = []api.Link{{Name: "l", From: "a", To: "a", Delay: 1, Weight: 1}, {Name: "9"}, {}}
	m.Events = []api.Event{{To: "a"}, {To: "l", At: -1, Value: num + 1}, {}}
	l := func(m *api.Model) *api.Link { return &m.Links[1] }
	e := func(m *api.Model) *api.Event { return &m.Events[1] }
	peeled(t, m, []fault{
		{func(m *api.Model) {}, api.ErrName, 3},
		{func(m *api.Model) { l(m).Name = "l" }, api.ErrTwice, 3},
		{func(m *api.Model) { l(m).Name = "a" }, api.ErrNone, 3},
		{func(m *api.Model) { l(m).From = "a" }, api.ErrNone, 3},
		{func(m *api.Model) { l(m).From, l(m).To = "l", "a" }, api.ErrNone, 3},
		{func(m *api.Model) { l(m).From = "a" }, api.ErrDelay, 3},
		{func(m *api.Model) { l(m).Delay = 1 }, api.ErrWeight, 3},
		{func(m *api.Model) { l(m).Weight = 1 }, api.ErrName, 4},
		{func(m *api.Model) { m.Links = m.Links[:2] }, api.ErrNone, 5},
		{func(m *api.Model) { e(m).To = "a" }, api.ErrRange, 5},
		{func(m *api.Model) { e(m).At = 0 }, api.ErrRange, 5},
		{func(m *api.Model) { e(m).Value = num }, api.ErrNone, 6},
		{func(m *api.Model) { m.Events = m.Events[:2] }, api.OK, 0},
	})
}

// P15.1: the first of what is wrong at several places is told, whatever comes behind it.
func TestCheckFirst(t *testing.T) {
	m := sample.Model()
	peeled(t, m, []fault{
		{func(m *api.Model) { m.Events[3].At = -1 }, api.ErrRange, 10},
		{func(m *api.Model) { m.Events[1].To = "c" }, api.ErrNone, 8},
		{func(m *api.Model) { m.Links[2].Delay = 0 }, api.ErrDelay, 6},
		{func(m *api.Model) { m.Links[0].Weight = 0 }, api.ErrWeight, 4},
		{func(m *api.Model) { m.Procs[2].Name = "" }, api.ErrName, 3},
		{func(m *api.Model) { m.Procs[1].Steps[2].Name = "z" }, api.ErrNone, 2},
		{func(m *api.Model) { m.Procs[1].Steps[1].Kind = 5 }, api.ErrForm, 2},
		{func(m *api.Model) { m.Procs[1].Vars[1].Init = num + 1 }, api.ErrRange, 2},
		{func(m *api.Model) { m.Procs[1].Vars[0].Name = "X" }, api.ErrName, 2},
		{func(m *api.Model) { m.Procs[0].Weight = weight + 1 }, api.ErrWeight, 1},
	})
}

// full is a right model of as many of each as may be, each process with as many variables and steps as may be.
func full() api.Model {
	m := api.Model{Version: 3}
	s := sample.Numbers(1)
	p := api.Proc{Weight: weight}
	for _, name := range s.Names(64) {
		p.Vars = append(p.Vars, api.Var{Name: name})
	}
	for range 256 {
		p.Steps = append(p.Steps, api.Step{Kind: api.Add, Name: p.Vars[63].Name, Arg: api.Arg{Kind: api.Variable, Name: p.Vars[62].Name}})
	}
	for _, name := range s.Names(4096) {
		p.Name = name
		m.Procs = append(m.Procs, p)
	}
	for i, name := range s.Names(16384) {
		m.Links = append(m.Links, api.Link{Name: name, From: m.Procs[i%4096].Name, To: m.Procs[i/4].Name, Delay: num, Weight: weight})
		m.Events = append(m.Events, api.Event{To: m.Procs[i%4096].Name, At: num, Value: -num})
	}
	return m
}

// P15.1: as many of each as may be, and one more.
func TestCheckMany(t *testing.T) {
	m := full()
	for i, c := range []struct {
		turn func(m *api.Model)
		f    api.Fault
	}{
		{func(m *api.Model) {}, api.Fault{}},
		{func(m *api.Model) { m.Procs = append(m.Procs, api.Proc{Name: "q", Weight: 1}) }, api.Fault{E: api.ErrMany}},
		{func(m *api.Model) {
			m.Links = append(m.Links, api.Link{Name: "q", From: m.Procs[0].Name, To: m.Procs[1].Name, Delay: 1, Weight: 1})
		}, api.Fault{E: api.ErrMany}},
		{func(m *api.Model) { m.Events = append(m.Events, m.Events[0]) }, api.Fault{E: api.ErrMany}},
		{func(m *api.Model) { m.Procs[4095].Name = m.Procs[0].Name }, api.Fault{E: api.ErrTwice, At: 4096}},
		{func(m *api.Model) { m.Procs[4095].Vars = append(m.Procs[4095].Vars, api.Var{Name: "q"}) }, api.Fault{E: api.ErrMany, At: 4096}},
		{func(m *api.Model) { m.Procs[4095].Steps = append(m.Procs[4095].Steps, m.Procs[0].Steps[0]) }, api.Fault{E: api.ErrMany, At: 4096}},
		{func(m *api.Model) { m.Links[16383].Name = m.Links[0].Name }, api.Fault{E: api.ErrTwice, At: 4096 + 16384}},
		{func(m *api.Model) { m.Events[16383].To = "q" }, api.Fault{E: api.ErrNone, At: 4096 + 16384 + 16384}},
		{func(m *api.Model) {
			m.Procs[4095].Steps = slices.Repeat(m.Procs[0].Steps[:1], 256)
			m.Procs[4095].Steps[255].Kind = 5
		}, api.Fault{E: api.ErrForm, At: 4096}},
	} {
		own := m
		own.Procs, own.Links, own.Events = slices.Clone(m.Procs), slices.Clone(m.Links), slices.Clone(m.Events)
		c.turn(&own)
		if f := model.Check(own); f != c.f {
			t.Errorf("case %d: %#v; want %#v", i, f, c.f)
		}
	}
}

// P15.2: a right model without an event, or without a link that nothing is sent along, or of a lesser version, is right.
func TestRightWithout(t *testing.T) {
	models := []api.Model{sample.Model()}
	for _, m := range sample.Turned(sample.Model()) {
		if model.Check(m) == (api.Fault{}) {
			models = append(models, m)
		}
	}
	for s := range sample.Numbers(100) {
		models = append(models, s.Model(1+s.Next(3), s.Next(5), s.Next(9), s.Next(5)))
	}
	for _, m := range models {
		for i := range m.Events {
			own := copies.Model(m)
			own.Events = slices.Delete(own.Events, i, i+1)
			right(t, own)
		}
		for i, l := range m.Links {
			own := copies.Model(m)
			own.Links = slices.Delete(own.Links, i, i+1)
			if sent := sender(m, l.Name); sent < 0 {
				right(t, own)
			} else if f := model.Check(own); f != (api.Fault{E: api.ErrNone, At: sent + 1}) {
				t.Errorf("%#v without %s: %#v", m, l.Name, f)
			}
		}
		for own := m; own.Version > 0; own.Version-- {
			right(t, own)
		}
	}
}

func right(t *testing.T, m api.Model) {
	t.Helper()
	if f := model.Check(m); f != (api.Fault{}) {
		t.Errorf("%#v: %#v", m, f)
	}
}

// sender is the first process that sends along a link, or -1.
func sender(m api.Model, link string) int {
	return slices.IndexFunc(m.Procs, func(p api.Proc) bool {
		return slices.ContainsFunc(p.Steps, func(s api.Step) bool { return s.Kind == api.Send && s.Name == link })
	})
}

// first is where the first one stands that is so, sought from the end on; -1, if none is.
func first[T any](list []T, is func(T) bool) int {
	at := -1
	for i := len(list) - 1; i >= 0; i-- {
		if is(list[i]) {
			at = i
		}
	}
	return at
}

// P15.1: the first place of a name, in right models and wrong ones.
func TestPlaces(t *testing.T) {
	var none api.Model
	if model.Proc(none, "") != -1 || model.Link(none, "") != -1 || model.Var(api.Proc{}, "") != -1 {
		t.Error("places in nothing")
	}
	for _, m := range sample.Turned(sample.Model()) {
		for _, name := range []string{"", "a", "b", "x", "y", "value", "A", "a b", "aa", "z"} {
			if at, want := model.Proc(m, name), first(m.Procs, func(p api.Proc) bool { return p.Name == name }); at != want {
				t.Fatalf("%#v: process %q at %d; want %d", m, name, at, want)
			}
			if at, want := model.Link(m, name), first(m.Links, func(l api.Link) bool { return l.Name == name }); at != want {
				t.Fatalf("%#v: link %q at %d; want %d", m, name, at, want)
			}
			for _, p := range m.Procs {
				if at, want := model.Var(p, name), first(p.Vars, func(v api.Var) bool { return v.Name == name }); at != want {
					t.Fatalf("%#v: variable %q at %d; want %d", p, name, at, want)
				}
			}
		}
	}
	twins := api.Model{Procs: []api.Proc{{Name: "b"}, {Name: "a"}, {Name: "a"}}, Links: []api.Link{{Name: "l"}, {Name: ""}, {Name: ""}}}
	if model.Proc(twins, "a") != 1 || model.Link(twins, "") != 1 || model.Var(api.Proc{Vars: []api.Var{{Name: "a"}, {Name: "b"}, {Name: "b"}}}, "b") != 1 {
		t.Error("places of twins")
	}
}

// P15.1: all names of a model, whichever it is, as they stand.
func TestNames(t *testing.T) {
	for i, c := range []struct {
		m    api.Model
		want []string
	}{
		{api.Model{}, nil},
		{api.Model{Procs: []api.Proc{}, Links: []api.Link{}, Events: []api.Event{{To: "a"}}}, nil},
		{sample.Model(), []string{"b", "x", "a", "y", "x", "value", "x", "a", "value"}},
		{api.Model{Procs: []api.Proc{{Name: "A"}, {Name: "A", Vars: []api.Var{{}, {Name: "\xff"}, {Name: "\xff"}}}, {}}}, []string{"A", "A", "", "\xff", "\xff", ""}},
		{api.Model{Version: 9, Links: []api.Link{{Name: "l", From: "a", To: "b"}, {Name: "k"}, {Name: "l"}}}, []string{"l", "k", "l"}},
	} {
		if got := slices.Collect(model.Names(c.m)); !slices.Equal(got, c.want) {
			t.Errorf("case %d: %q; want %q", i, got, c.want)
		}
	}
}

// P15.1: names may be gone through again, within themselves too, and stopped at any place.
func TestNamesAgain(t *testing.T) {
	want := []string{"b", "x", "a", "y", "x", "value", "x", "a", "value"}
	if !sample.Gone(model.Names(sample.Model()), want) {
		t.Errorf("not %q", want)
	}
}

// P2: what is handed in, and the memory behind it, is neither turned nor kept.
func TestModelIsLeft(t *testing.T) {
	for _, m := range append(sample.Turned(sample.Model()), sample.Model()) {
		m = sample.Roomy(m)
		was := sample.Behind(m)
		model.Check(m)
		model.Proc(m, "a")
		model.Link(m, "x")
		for _, p := range m.Procs {
			model.Var(p, "x")
		}
		for range model.Names(m) {
		}
		if now := sample.Behind(m); !reflect.DeepEqual(now, was) {
			t.Fatalf("%#v; was %#v", now, was)
		}
	}
	m := sample.Model()
	seq := model.Names(m)
	sample.Spoil(m)
	if got := slices.Collect(seq); !slices.Equal(got, []string{"b", "x", "a", "y", "x", "value", "x", "a", "value"}) {
		t.Errorf("written over behind the call: %q", got)
	}
	m = sample.Model()
	var got []string
	for s := range model.Names(m) {
		sample.Spoil(m)
		got = append(got, s)
	}
	if !slices.Equal(got, []string{"b", "x", "a", "y", "x", "value", "x", "a", "value"}) {
		t.Errorf("written over on the way: %q", got)
	}
}

// The chapter's example.
func TestExample(t *testing.T) {
	if f := model.Check(api.Model{Version: 3}); f != (api.Fault{}) {
		t.Errorf("%#v", f)
	}
}
