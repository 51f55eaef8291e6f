package model

import (
	"cmp"

	"sandtable/api"
	"sandtable/ident"
	"sandtable/scalar"
)

// taken is no variable's name: in a text it is what comes with the event.
const taken = "value"

// whole is a model of a right version and of right sizes, with where its names stand first.
type whole struct {
	m     api.Model
	procs map[string]int
	links map[string]int
}

// inner is a process of such a model, with where its variables' names stand first.
type inner struct {
	whole
	name string
	vars map[string]int
}

// check is the first that is wrong with the things of a list, and its number behind those ahead of the list.
func check[T any](list []T, ahead int, wrong func(at int, x T) api.Errno) api.Fault {
	for at, x := range list {
		if e := wrong(at, x); e != api.OK {
			return api.Fault{E: e, At: ahead + at + 1}
		}
	}
	return api.Fault{}
}

func (w whole) proc(at int, p api.Proc) api.Errno {
	if e := checkName(p.Name, at, w.procs); e != api.OK {
		return e
	}
	if !w.weighs(p.Weight) {
		return api.ErrWeight
	}
	if len(p.Vars) > api.MaxVars || len(p.Steps) > api.MaxSteps {
		return api.ErrMany
	}
	in := inner{w, p.Name, places(p.Vars, varName)}
	return cmp.Or(check(p.Vars, 0, in.variable).E, check(p.Steps, 0, in.step).E)
}

func (w whole) link(at int, l api.Link) api.Errno {
	if e := checkName(l.Name, at, w.links); e != api.OK {
		return e
	}
	if !has(w.procs, l.From) || !has(w.procs, l.To) {
		return api.ErrNone
	}
	if !scalar.Within(l.Delay, 1, api.MaxNum) {
		return api.ErrDelay
	}
	if !w.weighs(l.Weight) {
		return api.ErrWeight
	}
	return api.OK
}

func (w whole) event(_ int, e api.Event) api.Errno {
	if !has(w.procs, e.To) {
		return api.ErrNone
	}
	if !scalar.Within(e.At, 0, api.MaxNum) || !isNum(e.Value) {
		return api.ErrRange
	}
	return api.OK
}

// weighs tells whether something of the model may have a weight: elder versions leave some out.
func (w whole) weighs(n int64) bool {
	return scalar.Within(n, 1, api.MaxWeight) || n == 0 && w.m.Version < newest
}

func (in inner) variable(at int, v api.Var) api.Errno {
	if v.Name == taken {
		return api.ErrName
	}
	if e := checkName(v.Name, at, in.vars); e != api.OK {
		return e
	}
	if !isNum(v.Init) {
		return api.ErrRange
	}
	return api.OK
}

func (in inner) step(_ int, s api.Step) api.Errno {
	if !scalar.Within(int64(s.Kind), api.Put, api.Send) || !scalar.Within(int64(s.Arg.Kind), api.Number, api.Value) {
		return api.ErrForm
	}
	return cmp.Or(in.target(s), in.arg(s.Arg))
}

// target tells what is wrong with the variable that a step turns, or the link that it sends along.
func (in inner) target(s api.Step) api.Errno {
	if s.Kind != api.Send {
		return in.variableThere(s.Name)
	}
	at, ok := in.links[s.Name]
	if !ok {
		return api.ErrNone
	}
	if in.m.Links[at].From != in.name {
		return api.ErrOwner
	}
	return api.OK
}

// arg tells what is wrong with an argument, which is of one of the kinds.
func (in inner) arg(a api.Arg) api.Errno {
	switch {
	case a.Kind == api.Number && !isNum(a.N):
		return api.ErrRange
	case a.Kind != api.Number && a.N != 0:
		return api.ErrForm
	case a.Kind == api.Variable:
		return in.variableThere(a.Name)
	case a.Name != "":
		return api.ErrForm
	}
	return api.OK
}

func (in inner) variableThere(name string) api.Errno {
	if !has(in.vars, name) {
		return api.ErrNone
	}
	return api.OK
}

// checkName tells what is wrong with the name of what stands at a place: it isn't right, or something ahead has it.
func checkName(name string, at int, first map[string]int) api.Errno {
	if e := ident.Check(name); e != api.OK {
		return e
	}
	if first[name] < at {
		return api.ErrTwice
	}
	return api.OK
}

func has(first map[string]int, name string) bool {
	_, ok := first[name]
	return ok
}

func isNum(n int64) bool {
	return scalar.Within(n, -api.MaxNum, api.MaxNum)
}
