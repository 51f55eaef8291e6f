package model_test

import (
	"slices"
	"strings"
	"testing"

	"sandtable/api"
	"sandtable/model"
)

// faults are all that is wrong with a model, in the chapter's order, each found by going through its lists anew.
type faults struct {
	m    api.Model
	list []api.Fault
}

func (f *faults) say(wrong bool, e api.Errno, at int) {
	if wrong {
		f.list = append(f.list, api.Fault{E: e, At: at})
	}
}

// plain is what Check must answer.
func plain(m api.Model) api.Fault {
	f := faults{m: m}
	f.say(m.Version != 1 && m.Version != 2 && m.Version != 3, api.ErrVersion, 0)
	f.say(len(m.Procs) > 4096 || len(m.Links) > 16384 || len(m.Events) > 16384, api.ErrMany, 0)
	for i := range m.Procs {
		f.proc(i)
	}
	for i := range m.Links {
		f.link(i)
	}
	for i := range m.Events {
		f.event(i)
	}
	if len(f.list) == 0 {
		return api.Fault{}
	}
	return f.list[0]
}

// checked is what Check answers, held against plain.
func checked(t *testing.T, m api.Model) api.Fault {
	t.Helper()
	got, want := model.Check(m), plain(m)
	if got != want {
		t.Fatalf("%#v: %#v; want %#v", m, got, want)
	}
	return got
}

func (f *faults) proc(i int) {
	p := f.m.Procs[i]
	f.say(!rightName(p.Name), api.ErrName, i+1)
	for _, ahead := range f.m.Procs[:i] {
		f.say(ahead.Name == p.Name, api.ErrTwice, i+1)
	}
	f.say(!f.isWeight(p.Weight), api.ErrWeight, i+1)
	f.say(len(p.Vars) > 64 || len(p.Steps) > 256, api.ErrMany, i+1)
	for k, v := range p.Vars {
		f.say(!rightName(v.Name) || v.Name == "value", api.ErrName, i+1)
		for _, ahead := range p.Vars[:k] {
			f.say(ahead.Name == v.Name, api.ErrTwice, i+1)
		}
		f.say(!isNum(v.Init), api.ErrRange, i+1)
	}
	for _, s := range p.Steps {
		f.step(i, s)
	}
}

func (f *faults) step(i int, s api.Step) {
	p := f.m.Procs[i]
	f.say(!slices.Contains([]int{1, 2, 3, 4}, s.Kind) || !slices.Contains([]int{0, 1, 2}, s.Arg.Kind), api.ErrForm, i+1)
	if s.Kind == 4 {
		at := slices.IndexFunc(f.m.Links, func(l api.Link) bool { return l.Name == s.Name })
		f.say(at < 0, api.ErrNone, i+1)
		f.say(at >= 0 && f.m.Links[max(at, 0)].From != p.Name, api.ErrOwner, i+1)
	} else {
		f.say(!hasVar(p, s.Name), api.ErrNone, i+1)
	}
	if s.Arg.Kind == 0 {
		f.say(!isNum(s.Arg.N), api.ErrRange, i+1)
		f.say(s.Arg.Name != "", api.ErrForm, i+1)
	} else if s.Arg.Kind == 1 {
		f.say(s.Arg.N != 0, api.ErrForm, i+1)
		f.say(!hasVar(p, s.Arg.Name), api.ErrNone, i+1)
	} else {
		f.say(s.Arg.N != 0 || s.Arg.Name != "", api.ErrForm, i+1)
	}
}

func (f *faults) link(i int) {
	l, at := f.m.Links[i], len(f.m.Procs)+i+1
	f.say(!rightName(l.Name), api.ErrName, at)
	for _, ahead := range f.m.Links[:i] {
		f.say(ahead.Name == l.Name, api.ErrTwice, at)
	}
	f.say(!f.hasProc(l.From) || !f.hasProc(l.To), api.ErrNone, at)
	f.say(l.Delay < 1 || l.Delay > num, api.ErrDelay, at)
	f.say(!f.isWeight(l.Weight), api.ErrWeight, at)
}

func (f *faults) event(i int) {
	e, at := f.m.Events[i], len(f.m.Procs)+len(f.m.Links)+i+1
	f.say(!f.hasProc(e.To), api.ErrNone, at)
	f.say(e.At < 0 || e.At > num || !isNum(e.Value), api.ErrRange, at)
}

func (f *faults) hasProc(name string) bool {
	return slices.ContainsFunc(f.m.Procs, func(p api.Proc) bool { return p.Name == name })
}

func (f *faults) isWeight(n int64) bool {
	return n >= 1 && n <= weight || n == 0 && (f.m.Version == 1 || f.m.Version == 2)
}

func hasVar(p api.Proc, name string) bool {
	return slices.ContainsFunc(p.Vars, func(v api.Var) bool { return v.Name == name })
}

func isNum(n int64) bool {
	return -num <= n && n <= num
}

// rightName tells by chapter 5's words whether a name is right.
func rightName(s string) bool {
	const letters = "abcdefghijklmnopqrstuvwxyz"
	other := func(r rune) bool { return !strings.ContainsRune(letters+"0123456789_", r) }
	return len(s) >= 1 && len(s) <= 64 && strings.Contains(letters, s[:1]) && !strings.ContainsFunc(s, other)
}
