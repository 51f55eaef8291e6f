package split

import (
	"sandtable/api"
	"sandtable/section"
	"sandtable/wire"
)

const (
	sections = 6       // as many a fragment's file has, with the tags from 1 on
	most     = 1 << 20 // no number that is counted is above it, nor has a list more items
	mostName = 1 << 10 // as many bytes a name has at most
)

// writer is wire's, which knows besides whether something was to be written that no fragment's bytes can have.
type writer struct {
	wire.Writer
	wrong bool
}

// Write is a fragment's bytes.
func Write(f Fragment) ([]byte, api.Errno) {
	var parts [sections]writer
	parts[0].head(f)
	add(&parts[1], f.Procs, (*writer).proc)
	add(&parts[2], f.Links, (*writer).link)
	add(&parts[3], f.Events, (*writer).event)
	add(&parts[4], f.Imports, (*writer).name)
	add(&parts[5], f.Exports, (*writer).name)
	var list []section.Section
	for i := range parts {
		if parts[i].wrong {
			return nil, api.ErrArg
		}
		list = append(list, section.Section{Tag: byte(i + 1), Body: parts[i].Done()})
	}
	return section.Pack(list)
}

// number writes a number from 0 to most.
func (w *writer) number(n int) {
	w.wrong = w.wrong || n < 0 || n > most
	w.Count(n)
}

func (w *writer) name(s string) {
	if len(s) > mostName {
		w.wrong = true
		return
	}
	w.Text(s)
}

func (w *writer) head(f Fragment) {
	w.Fixed(f.Set)
	w.number(f.Index)
	w.number(f.Count)
}

func (w *writer) proc(p api.Proc) {
	w.name(p.Name)
	w.Num(p.Weight)
	add(w, p.Vars, (*writer).variable)
	add(w, p.Steps, (*writer).step)
}

func (w *writer) variable(v api.Var) {
	w.name(v.Name)
	w.Num(v.Init)
}

func (w *writer) step(s api.Step) {
	w.number(s.Kind)
	w.name(s.Name)
	w.number(s.Arg.Kind)
	w.Num(s.Arg.N)
	w.name(s.Arg.Name)
}

func (w *writer) link(l api.Link) {
	w.name(l.Name)
	w.name(l.From)
	w.name(l.To)
	w.Num(l.Delay)
	w.Num(l.Weight)
}

func (w *writer) event(e api.Event) {
	w.name(e.To)
	w.Num(e.At)
	w.Num(e.Value)
}

// add writes how many things there are, and each, as long as nothing is wrong.
func add[T any](w *writer, list []T, write func(*writer, T)) {
	w.number(len(list))
	for _, x := range list {
		// What is wrong is never answered: the rest of it, however much that is, needn't be written.
		if w.wrong {
			return
		}
		write(w, x)
	}
}
