package bundle

import (
	"math"

	"sandtable/api"
	"sandtable/pool"
	"sandtable/section"
	"sandtable/wire"
)

// mostNames is how many names a right model has at most.
const mostNames = api.MaxProcs*(1+api.MaxVars) + api.MaxLinks

// reader is a model, as far as it was read, and its names.
type reader struct {
	m    api.Model
	pool *pool.Pool
}

// read is the model of a bundle's sections; of any others whatever comes of them.
func read(list []section.Section) api.Model {
	r := reader{api.Model{Version: version}, pool.Make(nil)}
	for i, part := range r.sections() {
		body, _ := section.Find(list, byte(i+1))
		part(wire.Open(body))
	}
	return r.m
}

// sections is each section's reader.
func (r *reader) sections() []func(*wire.Reader) {
	return []func(*wire.Reader){r.names, r.procs, r.links, r.events, r.steps}
}

func (r *reader) names(in *wire.Reader) {
	if p, f := pool.Read(in, mostNames); f.E == api.OK {
		r.pool = p
	}
}

func (r *reader) procs(in *wire.Reader) {
	r.m.Procs = take(in, api.MaxProcs, r.proc)
}

func (r *reader) links(in *wire.Reader) {
	r.m.Links = take(in, api.MaxLinks, r.link)
}

func (r *reader) events(in *wire.Reader) {
	r.m.Events = take(in, api.MaxEvents, r.event)
}

func (r *reader) steps(in *wire.Reader) {
	for i := range r.m.Procs {
		r.m.Procs[i].Steps = take(in, api.MaxSteps, r.step)
	}
}

func (r *reader) proc(in *wire.Reader) api.Proc {
	return api.Proc{Name: r.name(in), Weight: in.Num(), Vars: take(in, api.MaxVars, r.variable)}
}

func (r *reader) variable(in *wire.Reader) api.Var {
	return api.Var{Name: r.name(in), Init: in.Num()}
}

func (r *reader) link(in *wire.Reader) api.Link {
	return api.Link{Name: r.name(in), From: r.procName(in), To: r.procName(in), Delay: in.Num(), Weight: in.Num()}
}

func (r *reader) event(in *wire.Reader) api.Event {
	return api.Event{To: r.procName(in), At: in.Num(), Value: in.Num()}
}

func (r *reader) step(in *wire.Reader) api.Step {
	return api.Step{Kind: in.Count(api.Send), Name: r.name(in), Arg: r.arg(in)}
}

func (r *reader) arg(in *wire.Reader) api.Arg {
	return api.Arg{Kind: in.Count(api.Value), N: in.Num(), Name: r.nameAhead(in)}
}

// name reads the place of a name; none stands at a place beyond the pool.
func (r *reader) name(in *wire.Reader) string {
	s, _ := r.pool.At(in.Count(math.MaxInt))
	return s
}

// nameAhead reads the place of a name and 1, or 0 for none.
func (r *reader) nameAhead(in *wire.Reader) string {
	s, _ := r.pool.At(in.Count(math.MaxInt) - 1)
	return s
}

// procName reads the number of a process; none has a number beyond them.
func (r *reader) procName(in *wire.Reader) string {
	i := in.Count(api.MaxProcs)
	if i >= len(r.m.Procs) {
		return ""
	}
	return r.m.Procs[i].Name
}

// take reads at most so many things, with how many they are ahead of them.
func take[T any](in *wire.Reader, most int, read func(*wire.Reader) T) []T {
	var list []T
	for range in.Count(most) {
		list = append(list, read(in))
	}
	return list
}
