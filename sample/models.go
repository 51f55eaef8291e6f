package sample

import (
	"math"
	"slices"
	"strconv"
	"strings"

	"sandtable/api"
	"sandtable/copies"
)

// Model is a right model of version 3: each kind of step and of argument, links to and fro and to oneself, names that stand for several things, nothing in the order of its name or time.
func Model() api.Model {
	return api.Model{
		Version: 3,
		Procs: []api.Proc{
			{Name: "b", Weight: 2, Vars: []api.Var{{Name: "x", Init: 4}}, Steps: []api.Step{
				{Kind: api.Mul, Name: "x", Arg: api.Arg{Kind: api.Variable, Name: "x"}},
				{Kind: api.Send, Name: "a", Arg: api.Arg{N: -3}},
			}},
			{Name: "a", Weight: 1, Vars: []api.Var{{Name: "y", Init: -1}, {Name: "x"}}, Steps: []api.Step{
				{Kind: api.Put, Name: "y", Arg: api.Arg{Kind: api.Value}},
				{Kind: api.Send, Name: "x", Arg: api.Arg{Kind: api.Variable, Name: "y"}},
				{Kind: api.Add, Name: "x", Arg: api.Arg{N: 1}},
			}},
			{Name: "value", Weight: 1},
		},
		Links: []api.Link{
			{Name: "x", From: "a", To: "b", Delay: 5, Weight: 4},
			{Name: "a", From: "b", To: "a", Delay: 1, Weight: 3},
			{Name: "value", From: "a", To: "a", Delay: 7, Weight: 9},
		},
		Events: []api.Event{{To: "b", At: 1, Value: 2}, {To: "a", At: 1, Value: 7}, {To: "a", At: 0, Value: 7}, {To: "a", At: 1, Value: -7}},
	}
}

// Names is n right names, no two the same; some begin as others do, and they stand in no order.
func (s *Numbers) Names(n int) []string {
	names := make([]string, n)
	for i := range names {
		names[i] = strings.Map(func(digit rune) rune { return rune("a_0b"[digit-'0']) }, "0"+strconv.FormatInt(int64(i), 4))
	}
	mix(s, names)
	return names
}

// Model is a right model of so many processes, links and events, in no order; without a process it has none of the others.
func (s *Numbers) Model(version, procs, links, events int) api.Model {
	m := api.Model{Version: version}
	for _, name := range s.Names(procs) {
		p := api.Proc{Name: name, Weight: s.weight(version)}
		for _, v := range s.Names(s.Next(4)) {
			p.Vars = append(p.Vars, api.Var{Name: v, Init: s.number()})
		}
		m.Procs = append(m.Procs, p)
	}
	if procs == 0 {
		return m
	}
	for _, name := range s.Names(links) {
		m.Links = append(m.Links, api.Link{Name: name, From: s.proc(m), To: s.proc(m), Delay: 1 + int64(s.Next(9)), Weight: s.weight(version)})
	}
	for range events {
		m.Events = append(m.Events, api.Event{To: s.proc(m), At: int64(s.Next(3)), Value: int64(s.Next(3))})
	}
	for i, p := range m.Procs {
		for range s.Next(5) {
			m.Procs[i].Steps = append(m.Procs[i].Steps, s.steps(m, p)...)
		}
	}
	return m
}

// steps is a step that the process may have, or none.
func (s *Numbers) steps(m api.Model, p api.Proc) []api.Step {
	step := api.Step{Kind: 1 + s.Next(4), Arg: api.Arg{Kind: s.Next(3)}}
	targets := variables(p)
	if step.Kind == api.Send {
		targets = linksFrom(m, p.Name)
	}
	if len(targets) == 0 || step.Arg.Kind == api.Variable && len(p.Vars) == 0 {
		return nil
	}
	step.Name = targets[s.Next(len(targets))]
	switch step.Arg.Kind {
	case api.Number:
		step.Arg.N = s.number()
	case api.Variable:
		step.Arg.Name = p.Vars[s.Next(len(p.Vars))].Name
	}
	return []api.Step{step}
}

// weight is a weight that something may have in that version.
func (s *Numbers) weight(version int) int64 {
	if version < 3 && s.Next(3) == 0 {
		return 0
	}
	return 1 + int64(s.Next(9))
}

func (s *Numbers) number() int64 {
	return int64(s.Next(1<<20))*int64(s.Next(1<<20)) - api.MaxNum/2
}

func (s *Numbers) proc(m api.Model) string {
	return m.Procs[s.Next(len(m.Procs))].Name
}

func variables(p api.Proc) []string {
	var names []string
	for _, v := range p.Vars {
		names = append(names, v.Name)
	}
	return names
}

func linksFrom(m api.Model, name string) []string {
	var names []string
	for _, l := range m.Links {
		if l.From == name {
			names = append(names, l.Name)
		}
	}
	return names
}

// mix turns a list's order into one that hangs on the numbers.
func mix[T any](s *Numbers, list []T) {
	for i := len(list) - 1; i > 0; i-- {
		at := s.Next(i + 1)
		list[i], list[at] = list[at], list[i]
	}
}

// Mix is a model with its declarations, and its processes' variables, in another order.
func (s *Numbers) Mix(m api.Model) api.Model {
	m = copies.Model(m)
	mix(s, m.Procs)
	mix(s, m.Links)
	mix(s, m.Events)
	for _, p := range m.Procs {
		mix(s, p.Vars)
	}
	return m
}

// Gentle is a model with small numbers, which runs for long before one goes round.
func (s *Numbers) Gentle(m api.Model) api.Model {
	m = copies.Model(m)
	for _, p := range m.Procs {
		for i := range p.Vars {
			p.Vars[i].Init = int64(s.Next(7)) - 3
		}
		for i, step := range p.Steps {
			if step.Kind == api.Mul {
				p.Steps[i].Arg = api.Arg{N: int64(s.Next(4)) - 2}
			}
			if step.Arg.Kind == api.Number {
				p.Steps[i].Arg.N %= 4
			}
		}
	}
	return m
}

// Turned is models, most of them wrong, that are each one thing away from m: a field is another one, near a bound or beyond it, or something is left out, stands twice, or trades places with the next one.
func Turned(m api.Model) []api.Model {
	t := turner{m: m}
	set(&t, func(m *api.Model) *int { return &m.Version }, kinds()...)
	lists(&t, func(m *api.Model) *[]api.Proc { return &m.Procs })
	lists(&t, func(m *api.Model) *[]api.Link { return &m.Links })
	lists(&t, func(m *api.Model) *[]api.Event { return &m.Events })
	for i, p := range m.Procs {
		set(&t, func(m *api.Model) *string { return &m.Procs[i].Name }, words()...)
		set(&t, func(m *api.Model) *int64 { return &m.Procs[i].Weight }, bounds()...)
		lists(&t, func(m *api.Model) *[]api.Var { return &m.Procs[i].Vars })
		lists(&t, func(m *api.Model) *[]api.Step { return &m.Procs[i].Steps })
		for k := range p.Vars {
			set(&t, func(m *api.Model) *string { return &m.Procs[i].Vars[k].Name }, words()...)
			set(&t, func(m *api.Model) *int64 { return &m.Procs[i].Vars[k].Init }, bounds()...)
		}
		for k := range p.Steps {
			t.step(func(m *api.Model) *api.Step { return &m.Procs[i].Steps[k] })
		}
	}
	for i := range m.Links {
		set(&t, func(m *api.Model) *string { return &m.Links[i].Name }, words()...)
		set(&t, func(m *api.Model) *string { return &m.Links[i].From }, words()...)
		set(&t, func(m *api.Model) *string { return &m.Links[i].To }, words()...)
		set(&t, func(m *api.Model) *int64 { return &m.Links[i].Delay }, bounds()...)
		set(&t, func(m *api.Model) *int64 { return &m.Links[i].Weight }, bounds()...)
	}
	for i := range m.Events {
		set(&t, func(m *api.Model) *string { return &m.Events[i].To }, words()...)
		set(&t, func(m *api.Model) *int64 { return &m.Events[i].At }, bounds()...)
		set(&t, func(m *api.Model) *int64 { return &m.Events[i].Value }, bounds()...)
	}
	return t.all
}

// turner is a model, and what it was turned into.
type turner struct {
	m   api.Model
	all []api.Model
}

func (t *turner) step(at func(*api.Model) *api.Step) {
	set(t, func(m *api.Model) *int { return &at(m).Kind }, kinds()...)
	set(t, func(m *api.Model) *string { return &at(m).Name }, words()...)
	set(t, func(m *api.Model) *int { return &at(m).Arg.Kind }, kinds()...)
	set(t, func(m *api.Model) *int64 { return &at(m).Arg.N }, bounds()...)
	set(t, func(m *api.Model) *string { return &at(m).Arg.Name }, words()...)
}

// set adds the model with each of some values in a field that hasn't it.
func set[T comparable](t *turner, field func(*api.Model) *T, values ...T) {
	for _, v := range values {
		own := copies.Model(t.m)
		if *field(&own) == v {
			continue
		}
		*field(&own) = v
		t.all = append(t.all, own)
	}
}

// lists adds the model with a list of it turned.
func lists[T any](t *turner, field func(*api.Model) *[]T) {
	add := func(turn func(list []T) []T) {
		own := copies.Model(t.m)
		*field(&own) = turn(*field(&own))
		t.all = append(t.all, own)
	}
	n := len(*field(&t.m))
	for i := range n {
		add(func(list []T) []T { return slices.Delete(list, i, i+1) })
		add(func(list []T) []T { return append(list, list[i]) })
		if i+1 < n {
			add(func(list []T) []T { list[i], list[i+1] = list[i+1], list[i]; return list })
		}
	}
}

func kinds() []int {
	return []int{-1, 0, 1, 2, 3, 4, 5, 1 << 32, math.MinInt}
}

func words() []string {
	return []string{"", "a", "b", "x", "value", "A", "a b", strings.Repeat("z", 64), strings.Repeat("z", 65)}
}

func bounds() []int64 {
	return []int64{math.MinInt64, -1<<40 - 1, -1 << 40, -1, 0, 1, 1 << 20, 1<<20 + 1, 1 << 40, 1<<40 + 1, math.MaxInt64}
}
