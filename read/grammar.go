package read

import (
	"sandtable/api"
	"sandtable/token"
)

// steps are the words of the kinds of steps.
var steps = [...]struct {
	word string
	kind int
}{
	{"put", api.Put},
	{"add", api.Add},
	{"mul", api.Mul},
	{"send", api.Send},
}

// model reads a model. Like each call below, what it answers counts for nothing, if there is a fault behind it.
func (r *reader) model() api.Model {
	m := api.Model{Version: int(r.numberBehind("model"))}
	r.need("{")
	for !r.closed() {
		r.decl(&m)
	}
	return m
}

// decl reads a declaration into a model.
func (r *reader) decl(m *api.Model) {
	switch {
	case r.skip("proc"):
		m.Procs = append(m.Procs, r.proc())
	case r.skip("link"):
		m.Links = append(m.Links, r.link())
	case r.skip("event"):
		m.Events = append(m.Events, r.event())
	default:
		r.refuse()
	}
}

// proc reads what follows on proc. (The calls within a literal are made from left to right, here and below.)
func (r *reader) proc() api.Proc {
	p := api.Proc{Name: r.name(), Weight: r.weight()}
	r.need("{")
	for !r.closed() {
		r.item(&p)
	}
	return p
}

func (r *reader) link() api.Link {
	l := api.Link{
		Name:   r.name(),
		From:   r.nameBehind("from"),
		To:     r.nameBehind("to"),
		Delay:  r.numberBehind("delay"),
		Weight: r.weight(),
	}
	r.need(";")
	return l
}

func (r *reader) event() api.Event {
	e := api.Event{To: r.name(), At: r.numberBehind("at"), Value: r.numberBehind("value")}
	r.need(";")
	return e
}

// weight reads a weight, if one is told; else it is 0.
func (r *reader) weight() int64 {
	if !r.skip("weight") {
		return 0
	}
	return r.number()
}

// item reads a variable, or a step, into a process.
func (r *reader) item(p *api.Proc) {
	if r.skip("var") {
		p.Vars = append(p.Vars, api.Var{Name: r.name(), Init: r.numberBehind("=")})
	} else {
		p.Steps = append(p.Steps, api.Step{Kind: r.kind(), Name: r.name(), Arg: r.arg()})
	}
	r.need(";")
}

// kind reads a step's word.
func (r *reader) kind() int {
	for _, s := range steps {
		if r.skip(s.word) {
			return s.kind
		}
	}
	r.refuse()
	return 0
}

func (r *reader) arg() api.Arg {
	switch {
	case r.skip("value"):
		return api.Arg{Kind: api.Value}
	case r.stands(token.Num):
		return api.Arg{Kind: api.Number, N: r.number()}
	}
	return api.Arg{Kind: api.Variable, Name: r.name()}
}
