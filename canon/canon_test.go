package canon_test

import (
	"math"
	"reflect"
	"slices"
	"testing"

	"sandtable/api"
	"sandtable/canon"
	"sandtable/copies"
	"sandtable/graph"
	"sandtable/model"
	"sandtable/sample"
)

// models are models of all kinds: right ones of each version, ones that are a thing or two away from right, and wrong ones with names that several have.
func models() []api.Model {
	all := append(sample.Turned(sample.Model()), sample.Model(), api.Model{})
	for s := range sample.Numbers(100) {
		m := s.Model(1+s.Next(3), s.Next(6), s.Next(9), s.Next(9))
		all = append(all, m, twins(&s, m))
	}
	return all
}

// twins is a model in which many things have the same names, and tell each other apart by something else.
func twins(s *sample.Numbers, m api.Model) api.Model {
	m = copies.Model(m)
	names := []string{"", "a", "A", "\xff", "é", "a0", "a_"}
	some := func() string { return names[s.Next(len(names))] }
	for i, p := range m.Procs {
		m.Procs[i].Name, m.Procs[i].Weight = some(), int64(s.Next(5))-2
		for k := range p.Vars {
			p.Vars[k].Name = some()
		}
	}
	for i := range m.Links {
		m.Links[i].Name = some()
	}
	for i := range m.Events {
		e := &m.Events[i]
		e.To, e.At, e.Value = some(), []int64{math.MinInt64, -1, 0, math.MaxInt64}[s.Next(4)], []int64{math.MinInt64, 0, math.MaxInt64}[s.Next(3)]
	}
	return m
}

// laid is a list in order: each thing is put behind the last one that isn't above it.
func laid[T any](list []T, above func(a, b T) bool) []T {
	var all []T
	for _, x := range list {
		at := len(all)
		for at > 0 && above(all[at-1], x) {
			at--
		}
		all = slices.Insert(all, at, x)
	}
	return all
}

// plain is what Canon must answer.
func plain(m api.Model) api.Model {
	m = copies.Model(m)
	m.Procs = laid(m.Procs, func(a, b api.Proc) bool { return a.Name > b.Name })
	for i, p := range m.Procs {
		m.Procs[i].Vars = laid(p.Vars, func(a, b api.Var) bool { return a.Name > b.Name })
	}
	m.Links = laid(m.Links, func(a, b api.Link) bool { return a.Name > b.Name })
	m.Events = laid(m.Events, func(a, b api.Event) bool {
		if a.At != b.At {
			return a.At > b.At
		}
		if a.To != b.To {
			return a.To > b.To
		}
		return a.Value > b.Value
	})
	return m
}

// empty is a model in which what is nil is an empty list, by which two may be compared whole.
func empty(m api.Model) api.Model {
	m.Procs = append([]api.Proc{}, m.Procs...)
	for i, p := range m.Procs {
		m.Procs[i].Vars = append([]api.Var{}, p.Vars...)
		m.Procs[i].Steps = append([]api.Step{}, p.Steps...)
	}
	m.Links = append([]api.Link{}, m.Links...)
	m.Events = append([]api.Event{}, m.Events...)
	return m
}

// same tells whether two models are the same, to the last field.
func same(a, b api.Model) bool {
	return reflect.DeepEqual(empty(a), empty(b))
}

// P16.1, P16.2: a model laid down is as it must be, stands so, and stays so.
func TestCanon(t *testing.T) {
	for _, m := range models() {
		want := plain(m)
		c := canon.Canon(m)
		if !same(c, want) {
			t.Fatalf("%#v: %#v; want %#v", m, c, want)
		}
		if canon.Is(m) != same(m, want) || !canon.Is(c) {
			t.Fatalf("%#v: Is: %v, laid down %v", m, canon.Is(m), canon.Is(c))
		}
		if again := canon.Canon(c); !same(again, c) {
			t.Fatalf("%#v: again %#v", c, again)
		}
	}
}

// P16.1: what stands where, written out.
func TestCanonOrders(t *testing.T) {
	step := func(name string) api.Step { return api.Step{Kind: api.Put, Name: name} }
	m := api.Model{
		Version: 7,
		Procs: []api.Proc{
			{Name: "b_", Weight: 1, Steps: []api.Step{step("z"), step("a"), step("z")}},
			{Name: "b"},
			{Name: "a", Weight: 2, Vars: []api.Var{{Name: "y", Init: 2}, {Name: "y", Init: 1}, {Name: "x", Init: 3}}},
			{Name: "a", Weight: 1},
			{Name: "b0"}, {Name: "Z"}, {Name: "\xff"}, {Name: ""}, {Name: "ba"},
		},
		Links:  []api.Link{{Name: "l", From: "b", To: "a", Delay: 9}, {Name: "l", From: "a", To: "b", Delay: 1}, {Name: "k", From: "z"}},
		Events: []api.Event{{To: "b", At: 1, Value: 2}, {To: "a", At: 2, Value: 0}, {To: "b", At: 1, Value: -2}, {To: "a", At: 1, Value: 9}, {To: "z", At: -1, Value: 5}},
	}
	want := api.Model{
		Version: 7,
		Procs: []api.Proc{
			{Name: ""}, {Name: "Z"},
			{Name: "a", Weight: 2, Vars: []api.Var{{Name: "x", Init: 3}, {Name: "y", Init: 2}, {Name: "y", Init: 1}}},
			{Name: "a", Weight: 1},
			{Name: "b"}, {Name: "b0"},
			{Name: "b_", Weight: 1, Steps: []api.Step{step("z"), step("a"), step("z")}},
			{Name: "ba"}, {Name: "\xff"},
		},
		Links:  []api.Link{{Name: "k", From: "z"}, {Name: "l", From: "b", To: "a", Delay: 9}, {Name: "l", From: "a", To: "b", Delay: 1}},
		Events: []api.Event{{To: "z", At: -1, Value: 5}, {To: "a", At: 1, Value: 9}, {To: "b", At: 1, Value: -2}, {To: "b", At: 1, Value: 2}, {To: "a", At: 2, Value: 0}},
	}
	if got := canon.Canon(m); !same(got, want) {
		t.Errorf("%#v; want %#v", got, want)
	}
}

// P16.1: does a model stand so: each list by itself, and by each of what it is laid down by.
func TestIs(t *testing.T) {
	for i, c := range []struct {
		m    api.Model
		want bool
	}{
		{api.Model{}, true},
		{api.Model{Procs: []api.Proc{}, Links: []api.Link{}, Events: []api.Event{}}, true},
		{api.Model{Procs: []api.Proc{{Name: "a"}, {Name: "b"}}}, true},
		{api.Model{Procs: []api.Proc{{Name: "b"}, {Name: "a"}}}, false},
		{api.Model{Procs: []api.Proc{{Name: "a", Weight: 2}, {Name: "a", Weight: 1}}}, true},
		{api.Model{Procs: []api.Proc{{}, {Vars: []api.Var{{Name: "x"}, {Name: "y"}}}}}, true},
		{api.Model{Procs: []api.Proc{{}, {Vars: []api.Var{{Name: "y"}, {Name: "x"}}}}}, false},
		{api.Model{Procs: []api.Proc{{Steps: []api.Step{{Kind: 4, Name: "y"}, {Kind: 1, Name: "x"}}}}}, true},
		{api.Model{Links: []api.Link{{Name: "k", From: "b"}, {Name: "l", From: "a"}}}, true},
		{api.Model{Links: []api.Link{{Name: "l"}, {Name: "k"}}}, false},
		{api.Model{Links: []api.Link{{Name: "l", From: "b"}, {Name: "l", From: "a"}}}, true},
		{api.Model{Events: []api.Event{{At: 1, To: "b", Value: 2}, {At: 2, To: "a", Value: 1}}}, true},
		{api.Model{Events: []api.Event{{At: 2, To: "a"}, {At: 1, To: "b"}}}, false},
		{api.Model{Events: []api.Event{{At: 1, To: "a", Value: 2}, {At: 1, To: "b", Value: 1}}}, true},
		{api.Model{Events: []api.Event{{At: 1, To: "b", Value: 1}, {At: 1, To: "a", Value: 2}}}, false},
		{api.Model{Events: []api.Event{{At: 1, To: "a", Value: 1}, {At: 1, To: "a", Value: 2}}}, true},
		{api.Model{Events: []api.Event{{At: 1, To: "a", Value: 2}, {At: 1, To: "a", Value: 1}}}, false},
		{api.Model{Events: []api.Event{{At: 1, To: "a", Value: 2}, {At: 1, To: "a", Value: 2}}}, true},
	} {
		if canon.Is(c.m) != c.want {
			t.Errorf("case %d: %v", i, !c.want)
		}
	}
}

// P16.1: two are the same, if all fields of all lists are, where they stand.
func TestSame(t *testing.T) {
	some := append(sample.Turned(sample.Model()), sample.Model())
	some = append(some, some[0], some[len(some)/2])
	for i, a := range some {
		for _, b := range some[i:] {
			if want := same(a, b); canon.Same(a, copies.Model(b)) != want || canon.Same(b, a) != want {
				t.Fatalf("%#v and %#v: %v", a, b, !want)
			}
		}
	}
	all := models()
	for i, a := range all {
		if !canon.Same(a, empty(a)) || !canon.Same(empty(a), a) || !canon.Same(a, sample.Roomy(a)) {
			t.Fatalf("%#v: not the same as it is", a)
		}
		b := all[(i+1)%len(all)]
		if canon.Same(a, b) != same(a, b) {
			t.Fatalf("%#v and %#v: %v", a, b, canon.Same(a, b))
		}
	}
	if canon.Same(api.Model{}, api.Model{Procs: []api.Proc{{}}}) || canon.Same(api.Model{Events: make([]api.Event, 2)}, api.Model{Events: make([]api.Event, 1)}) {
		t.Error("as many as there aren't")
	}
}

// orders is all orders of the numbers from 0 to n - 1.
func orders(n int) [][]int {
	if n == 0 {
		return [][]int{nil}
	}
	var all [][]int
	for _, order := range orders(n - 1) {
		for at := range n {
			all = append(all, slices.Insert(slices.Clone(order), at, n-1))
		}
	}
	return all
}

// by is a list in another order.
func by[T any](list []T, order []int) []T {
	var turned []T
	for _, at := range order {
		turned = append(turned, list[at])
	}
	return turned
}

// P16.2: in whichever order the declarations of a model stand, it is laid down as the same.
func TestEveryOrder(t *testing.T) {
	m := sample.Model()
	want := canon.Canon(m)
	for _, procs := range orders(3) {
		for _, links := range orders(3) {
			for _, events := range orders(4) {
				for _, vars := range orders(2) {
					own := copies.Model(m)
					own.Procs[1].Vars = by(own.Procs[1].Vars, vars)
					own.Procs, own.Links, own.Events = by(own.Procs, procs), by(own.Links, links), by(own.Events, events)
					if got := canon.Canon(own); !same(got, want) {
						t.Fatalf("%#v: %#v; want %#v", own, got, want)
					}
				}
			}
		}
	}
	for s := range sample.Numbers(50) {
		m := s.Model(3, s.Next(30), s.Next(40), s.Next(50))
		if own := s.Mix(m); !same(canon.Canon(own), canon.Canon(m)) {
			t.Fatalf("%#v", m)
		}
	}
}

// P16.2: what is laid down is right just if the model is; what is wrong with it alone is wrong with that.
func TestRightIfLaidDown(t *testing.T) {
	for _, m := range models() {
		was, is := model.Check(m), model.Check(canon.Canon(m))
		if (was.E == api.OK) != (is.E == api.OK) {
			t.Fatalf("%#v: %#v, laid down %#v", m, was, is)
		}
	}
	for i, turn := range []func(m *api.Model){
		func(m *api.Model) {},
		func(m *api.Model) { m.Version = 0 },
		func(m *api.Model) { m.Procs[2].Name = "_" },
		func(m *api.Model) { m.Procs = append(m.Procs, api.Proc{Name: "a", Weight: 1}) },
		func(m *api.Model) { m.Procs[0].Weight = 0 },
		func(m *api.Model) { m.Procs[0].Vars = make([]api.Var, 65) },
		func(m *api.Model) { m.Procs[1].Vars[0].Init = 1<<40 + 1 },
		func(m *api.Model) { m.Procs[1].Steps[1].Kind = 5 },
		func(m *api.Model) { m.Procs[1].Steps[0].Name = "z" },
		func(m *api.Model) { m.Procs[0].Steps[1].Name = "x" },
		func(m *api.Model) { m.Links[1].Delay = 0 },
		func(m *api.Model) { m.Events = make([]api.Event, 16385) },
		func(m *api.Model) { m.Events[0].To = "z" },
	} {
		m := sample.Model()
		turn(&m)
		if was, is := model.Check(m), model.Check(canon.Canon(m)); was.E != is.E {
			t.Errorf("case %d: %#v, laid down %#v", i, was, is)
		}
	}
}

// P16.1, P2: what is handed in, and the memory behind it, isn't turned.
func TestModelIsLeft(t *testing.T) {
	for _, m := range models() {
		m = sample.Roomy(m)
		was := sample.Behind(m)
		other := sample.Roomy(sample.Model())
		canon.Canon(m)
		canon.Is(m)
		canon.Same(m, other)
		canon.Same(other, m)
		canon.Same(m, copies.Model(m))
		canon.Graph(m)
		if now := sample.Behind(m); !reflect.DeepEqual(now, was) {
			t.Fatalf("%#v; was %#v", now, was)
		}
		if !reflect.DeepEqual(sample.Behind(other), sample.Behind(sample.Roomy(sample.Model()))) {
			t.Fatalf("%#v: the other one", m)
		}
	}
}

// P16.1, P2: what is laid down is a copy, to the last list and the room behind it; no two of its lists share any, even if those of the model do.
func TestCanonIsACopy(t *testing.T) {
	for _, m := range models() {
		m = sample.Roomy(m)
		for i := range m.Procs {
			m.Procs[i].Vars, m.Procs[i].Steps = m.Procs[0].Vars, m.Procs[0].Steps
		}
		was := sample.Behind(m)
		c := canon.Canon(m)
		sample.Fill(c, 1)
		if !sample.Filled(c, 1) {
			t.Fatalf("%#v: lists share memory", was)
		}
		sample.Spoil(c)
		if now := sample.Behind(m); !reflect.DeepEqual(now, was) {
			t.Fatalf("%#v; was %#v", now, was)
		}
		c = canon.Canon(m)
		kept := copies.Model(c)
		sample.Spoil(m)
		if !same(c, kept) {
			t.Fatalf("%#v: kept, what is handed in", was)
		}
	}
}

// joined is all that is between two processes of a model, by its links.
func joined(m api.Model, a, b string) int64 {
	all := int64(0)
	for _, l := range m.Links {
		if l.From == a && l.To == b || l.From == b && l.To == a {
			all += max(l.Weight, 1)
		}
	}
	return all
}

// P16.1: the graph of a model, process by process and pair by pair, as they stand; of a wrong one its fault's error.
func TestGraph(t *testing.T) {
	for _, m := range models() {
		g, e := canon.Graph(m)
		if want := model.Check(m).E; e != want || (g == nil) != (want != api.OK) {
			t.Fatalf("%#v: %v, %d; want %d", m, g, e, want)
		}
		if e == api.OK {
			holds(t, m, g)
		}
	}
}

// holds holds that a graph is that of a right model.
func holds(t *testing.T, m api.Model, g *graph.Graph) {
	t.Helper()
	if g.Len() != len(m.Procs) {
		t.Fatalf("%#v: %d things", m, g.Len())
	}
	for a, p := range m.Procs {
		if g.Weight(a) != max(p.Weight, 1) || g.Between(a, a) != 0 {
			t.Fatalf("%#v: %s weighs %d", m, p.Name, g.Weight(a))
		}
		for b, q := range m.Procs {
			if a != b && g.Between(a, b) != joined(m, p.Name, q.Name) {
				t.Fatalf("%#v: %d between %s and %s; want %d", m, g.Between(a, b), p.Name, q.Name, joined(m, p.Name, q.Name))
			}
		}
	}
}

// P16.1: graphs, written out: of nothing, of links to oneself alone, of weights that aren't told, and of the most there may be.
func TestGraphs(t *testing.T) {
	procs := func(weight int64) []api.Proc {
		return []api.Proc{{Name: "b", Weight: weight}, {Name: "a", Weight: weight}}
	}
	link := func(name, from, to string, weight int64) api.Link {
		return api.Link{Name: name, From: from, To: to, Delay: 1, Weight: weight}
	}
	s := sample.Numbers(1)
	var heavy []api.Link
	for i, name := range s.Names(16384) {
		heavy = append(heavy, link(name, []string{"a", "b"}[i%2], []string{"b", "a"}[i%2], 1<<20))
	}
	for i, c := range []struct {
		m       api.Model
		weights []int64
		edges   []graph.Edge
	}{
		{api.Model{Version: 3}, nil, nil},
		{api.Model{Version: 1, Procs: procs(0)}, []int64{1, 1}, nil},
		{api.Model{Version: 2, Procs: procs(0), Links: []api.Link{link("k", "a", "b", 0), link("l", "a", "b", 0)}}, []int64{1, 1}, []graph.Edge{{A: 0, B: 1, W: 2}}},
		{api.Model{Version: 3, Procs: procs(2), Links: []api.Link{link("k", "a", "a", 5), link("l", "b", "b", 5)}}, []int64{2, 2}, nil},
		{api.Model{Version: 3, Procs: procs(1), Links: []api.Link{link("k", "a", "b", 3), link("l", "b", "a", 4)}}, []int64{1, 1}, []graph.Edge{{A: 0, B: 1, W: 7}}},
		{api.Model{Version: 3, Procs: procs(1 << 20), Links: heavy}, []int64{1 << 20, 1 << 20}, []graph.Edge{{A: 0, B: 1, W: 1 << 34}}},
	} {
		g, e := canon.Graph(c.m)
		if e != api.OK || g == nil || g.Len() != len(c.weights) {
			t.Errorf("case %d: %v, %d", i, g, e)
			continue
		}
		for k, w := range c.weights {
			if g.Weight(k) != w {
				t.Errorf("case %d: %d weighs %d; want %d", i, k, g.Weight(k), w)
			}
		}
		if got := slices.Collect(g.Edges()); !slices.Equal(got, c.edges) {
			t.Errorf("case %d: %v; want %v", i, got, c.edges)
		}
	}
}

// P16.1: the graph of a great model, whose places aren't those of what it is laid down.
func TestGreatGraph(t *testing.T) {
	s := sample.Numbers(4)
	m := s.Model(3, 4096, 16384, 0)
	g, e := canon.Graph(m)
	if e != api.OK || g.Len() != 4096 {
		t.Fatalf("%d", e)
	}
	between := map[[2]string]int64{}
	for _, l := range m.Links {
		if l.From != l.To {
			between[[2]string{min(l.From, l.To), max(l.From, l.To)}] += l.Weight
		}
	}
	n := 0
	for edge := range g.Edges() {
		a, b := m.Procs[edge.A].Name, m.Procs[edge.B].Name
		if between[[2]string{min(a, b), max(a, b)}] != edge.W {
			t.Fatalf("%d between %s and %s", edge.W, a, b)
		}
		n++
	}
	if n != len(between) {
		t.Errorf("%d of %d pairs", n, len(between))
	}
	for i, p := range m.Procs {
		if g.Weight(i) != p.Weight {
			t.Fatalf("%s weighs %d", p.Name, g.Weight(i))
		}
	}
}

// P2: a graph doesn't hang on the model behind the call.
func TestGraphIsItsOwn(t *testing.T) {
	m := sample.Model()
	g, _ := canon.Graph(m)
	clear(m.Procs)
	clear(m.Links)
	holds(t, sample.Model(), g)
	again, _ := canon.Graph(sample.Model())
	again.Join(0, 1, 1)
	holds(t, sample.Model(), g)
}

// The chapter's example.
func TestExample(t *testing.T) {
	c := canon.Canon(api.Model{Version: 3, Procs: []api.Proc{{Name: "b", Weight: 1}, {Name: "a", Weight: 1}}})
	if c.Procs[0].Name != "a" || c.Procs[1].Name != "b" {
		t.Errorf("%#v", c)
	}
}
