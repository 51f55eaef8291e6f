package sample

import (
	"slices"

	"sandtable/api"
	"sandtable/copies"
)

// Roomy is a copy of a model whose lists have room behind them, in which something stands.
func Roomy(m api.Model) api.Model {
	m = copies.Model(m)
	for i, p := range m.Procs {
		m.Procs[i].Vars = roomy(p.Vars, api.Var{Name: "behind", Init: 1})
		m.Procs[i].Steps = roomy(p.Steps, api.Step{Kind: api.Put, Name: "behind"})
	}
	m.Procs = roomy(m.Procs, api.Proc{Name: "behind", Weight: 1})
	m.Links = roomy(m.Links, api.Link{Name: "behind", Delay: 1})
	m.Events = roomy(m.Events, api.Event{To: "behind", At: 1})
	return m
}

func roomy[T any](list []T, x T) []T {
	return append(list, x)[:len(list)]
}

// Behind is a copy of a model's lists with what stands in the room behind them.
func Behind(m api.Model) api.Model {
	m.Procs = slices.Clone(m.Procs[:cap(m.Procs)])
	for i, p := range m.Procs {
		m.Procs[i].Vars = p.Vars[:cap(p.Vars)]
		m.Procs[i].Steps = p.Steps[:cap(p.Steps)]
	}
	m.Links = m.Links[:cap(m.Links)]
	m.Events = m.Events[:cap(m.Events)]
	return copies.Model(m)
}

// Spoil writes a model's lists over, and the room behind them.
func Spoil(m api.Model) {
	for _, p := range m.Procs {
		over(p.Vars, api.Var{Name: "over"})
		over(p.Steps, api.Step{Name: "over"})
	}
	over(m.Procs, api.Proc{Name: "over"})
	over(m.Links, api.Link{Name: "over"})
	over(m.Events, api.Event{To: "over"})
}

// Fill writes a number of its own, from first on, all over each list of a model, and the room behind it, but for the lists that its processes are in.
func Fill(m api.Model, first int64) {
	own := first
	for _, p := range m.Procs {
		over(p.Vars, api.Var{Init: own})
		over(p.Steps, api.Step{Kind: int(own) + 1})
		own += 2
	}
	over(m.Links, api.Link{Delay: own})
	over(m.Events, api.Event{At: own + 1})
}

func over[T any](list []T, x T) {
	list = list[:cap(list)]
	for i := range list {
		list[i] = x
	}
}

// Filled tells whether each list is still as Fill left it: lists that share memory aren't.
func Filled(m api.Model, first int64) bool {
	own := first
	for _, p := range m.Procs {
		if !is(p.Vars, api.Var{Init: own}) || !is(p.Steps, api.Step{Kind: int(own) + 1}) {
			return false
		}
		own += 2
	}
	return is(m.Links, api.Link{Delay: own}) && is(m.Events, api.Event{At: own + 1})
}

func is[T comparable](list []T, x T) bool {
	return !slices.ContainsFunc(list[:cap(list)], func(y T) bool { return x != y })
}
