package split

import (
	"sandtable/api"
	"sandtable/section"
	"sandtable/wire"
)

// reader is wire's, by the bounds that a fragment's bytes have.
type reader struct {
	*wire.Reader
}

// Read is bytes' fragment.
func Read(b []byte) (Fragment, api.Errno) {
	list, e := section.Unpack(b)
	if e != api.OK {
		return Fragment{}, e
	}
	parts, ok := open(list)
	if !ok {
		return Fragment{}, api.ErrForm
	}
	f := Fragment{
		Set:     parts[0].Fixed(),
		Index:   parts[0].number(),
		Count:   parts[0].number(),
		Procs:   take(parts[1], reader.proc),
		Links:   take(parts[2], reader.link),
		Events:  take(parts[3], reader.event),
		Imports: take(parts[4], reader.name),
		Exports: take(parts[5], reader.name),
	}
	for _, r := range parts {
		// A field has but one way to be written: what was read without a fault, to the end, is the bytes of f.
		r.End()
		if r.Fault().E != api.OK {
			return Fragment{}, api.ErrForm
		}
	}
	return f, api.OK
}

// open is a reader for each section, and true, if they are just those that a fragment has.
func open(list []section.Section) ([sections]reader, bool) {
	var parts [sections]reader
	if len(list) != sections {
		return parts, false
	}
	for i, s := range list {
		if int(s.Tag) != i+1 {
			return parts, false
		}
		parts[i] = reader{wire.Open(s.Body)}
	}
	return parts, true
}

// number reads a number from 0 to most.
func (r reader) number() int {
	return r.Count(most)
}

func (r reader) name() string {
	return r.Text(mostName)
}

func (r reader) proc() api.Proc {
	return api.Proc{Name: r.name(), Weight: r.Num(), Vars: take(r, reader.variable), Steps: take(r, reader.step)}
}

func (r reader) variable() api.Var {
	return api.Var{Name: r.name(), Init: r.Num()}
}

func (r reader) step() api.Step {
	return api.Step{Kind: r.number(), Name: r.name(), Arg: r.arg()}
}

func (r reader) arg() api.Arg {
	return api.Arg{Kind: r.number(), N: r.Num(), Name: r.name()}
}

func (r reader) link() api.Link {
	return api.Link{Name: r.name(), From: r.name(), To: r.name(), Delay: r.Num(), Weight: r.Num()}
}

func (r reader) event() api.Event {
	return api.Event{To: r.name(), At: r.Num(), Value: r.Num()}
}

// take reads things, with how many they are ahead of them, till the first fault.
func take[T any](r reader, read func(reader) T) []T {
	var list []T
	for range r.number() {
		// Behind a fault the reader answers nothing, however many things were told.
		if r.Fault().E != api.OK {
			break
		}
		list = append(list, read(r))
	}
	return list
}
