package bundle

import (
	"sandtable/api"
	"sandtable/model"
	"sandtable/pool"
	"sandtable/section"
	"sandtable/wire"
)

// writer is a right model, laid down, with what stands for its names.
type writer struct {
	m       api.Model
	names   *pool.Pool
	numbers map[string]int // where each process stands
}

// written is a bundle's sections, of a right model, laid down.
func written(m api.Model) []section.Section {
	w := writer{m, pool.Make(model.Names(m)), map[string]int{}}
	for name := range each(m) {
		w.numbers[name] = len(w.numbers)
	}
	var list []section.Section
	for i, part := range w.sections() {
		var out wire.Writer
		part(&out)
		list = append(list, section.Section{Tag: byte(i + 1), Body: out.Done()})
	}
	return list
}

// sections is each section's writer.
func (w writer) sections() []func(*wire.Writer) {
	return []func(*wire.Writer){w.names.Write, w.procs, w.links, w.events, w.steps}
}

func (w writer) procs(out *wire.Writer) {
	add(out, w.m.Procs, w.proc)
}

func (w writer) links(out *wire.Writer) {
	add(out, w.m.Links, w.link)
}

func (w writer) events(out *wire.Writer) {
	add(out, w.m.Events, w.event)
}

func (w writer) steps(out *wire.Writer) {
	for _, p := range w.m.Procs {
		add(out, p.Steps, w.step)
	}
}

func (w writer) proc(out *wire.Writer, p api.Proc) {
	out.Count(w.place(p.Name))
	out.Num(p.Weight)
	add(out, p.Vars, w.variable)
}

func (w writer) variable(out *wire.Writer, v api.Var) {
	out.Count(w.place(v.Name))
	out.Num(v.Init)
}

func (w writer) link(out *wire.Writer, l api.Link) {
	out.Count(w.place(l.Name))
	out.Count(w.numbers[l.From])
	out.Count(w.numbers[l.To])
	out.Num(l.Delay)
	out.Num(l.Weight)
}

func (w writer) event(out *wire.Writer, e api.Event) {
	out.Count(w.numbers[e.To])
	out.Num(e.At)
	out.Num(e.Value)
}

func (w writer) step(out *wire.Writer, s api.Step) {
	out.Count(s.Kind)
	out.Count(w.place(s.Name))
	out.Count(s.Arg.Kind)
	out.Num(s.Arg.N)
	out.Count(w.placeBehind(s.Arg))
}

// placeBehind is the place of an argument's name and 1; 0, where it is of no variable.
func (w writer) placeBehind(a api.Arg) int {
	if a.Kind != api.Variable {
		return 0
	}
	return w.place(a.Name) + 1
}

// place is where a name stands in the pool, which has all of them.
func (w writer) place(name string) int {
	at, _ := w.names.Index(name)
	return at
}

// add writes how many things there are, and each.
func add[T any](out *wire.Writer, list []T, write func(*wire.Writer, T)) {
	out.Count(len(list))
	for _, x := range list {
		write(out, x)
	}
}
