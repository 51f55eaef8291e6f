package kernel_test

import (
	"math"
	"slices"
	"testing"

	"sandtable/api"
	"sandtable/canon"
	"sandtable/kernel"
	"sandtable/model"
	"sandtable/rule"
	"sandtable/sample"
)

// plain is what a kernel must do: a list of events as they were put in, looked through from its beginning.
type plain struct {
	m    api.Model // laid down
	vars [][]int64
	list []api.Event
	now  int64
}

func begin(m api.Model) *plain {
	p := &plain{m: canon.Canon(m)}
	for _, proc := range p.m.Procs {
		var vars []int64
		for _, v := range proc.Vars {
			vars = append(vars, v.Init)
		}
		p.vars = append(p.vars, vars)
	}
	p.list = slices.Clone(p.m.Events)
	return p
}

// least is the place of the least event.
func (p *plain) least() int {
	at := 0
	for i, e := range p.list {
		if l := p.list[at]; e.At < l.At || e.At == l.At && e.To < l.To {
			at = i
		}
	}
	return at
}

func (p *plain) step() (kernel.Record, api.Errno) {
	if len(p.list) == 0 {
		return kernel.Record{}, 4
	}
	at := p.least()
	e := p.list[at]
	i := model.Proc(p.m, e.To)
	vars, sent, fault := rule.Run(p.m.Procs[i], p.vars[i], e.Value)
	if fault != 0 {
		return kernel.Record{}, fault
	}
	behind := slices.Delete(slices.Clone(p.list), at, at+1)
	for _, s := range sent {
		l := p.m.Links[model.Link(p.m, s.Link)]
		if e.At > math.MaxInt64-l.Delay {
			return kernel.Record{}, 30
		}
		behind = append(behind, api.Event{To: l.To, At: e.At + l.Delay, Value: s.Value})
	}
	if len(behind) > 4096 && len(behind) > len(p.list) {
		return kernel.Record{}, 71
	}
	p.list, p.vars[i], p.now = behind, vars, e.At
	return kernel.Record{At: e.At, Proc: e.To, Value: e.Value}, 0
}

// told is a record, and an error, that are gone through together.
type told = sample.Pair[kernel.Record, api.Errno]

// all is what All must go through, stopped behind so many.
func (p *plain) all(most, stop int) []told {
	var list []told
	for n := 0; len(list) < stop; n++ {
		if n >= most {
			if len(p.list) > 0 {
				list = append(list, told{B: 70})
			}
			break
		}
		r, e := p.step()
		if e == 4 {
			break
		}
		list = append(list, told{A: r, B: e})
		if e != 0 {
			break
		}
	}
	return list
}

// both is a kernel, and what it must do.
type both struct {
	t *testing.T
	k *kernel.Kernel
	p *plain
}

func pairUp(t *testing.T, m api.Model) *both {
	t.Helper()
	k, f := kernel.New(m)
	if k == nil || f != (api.Fault{}) {
		t.Fatalf("%#v: %#v", m, f)
	}
	b := &both{t, k, begin(m)}
	b.same()
	return b
}

func (b *both) step() (kernel.Record, api.Errno) {
	b.t.Helper()
	r, e := b.k.Step()
	if want, fault := b.p.step(); r != want || e != fault {
		b.t.Fatalf("%#v: %v, %d; want %v, %d", b.p.m, r, e, want, fault)
	}
	b.same()
	return r, e
}

// all goes through so many at most, and stops behind some; nothing may be handed out behind that.
func (b *both) all(most, stop int) []told {
	b.t.Helper()
	var got []told
	sample.Pairs(b.k.All(most))(func(x told) bool {
		got = append(got, x)
		return len(got) < stop
	})
	if want := b.p.all(most, stop); !slices.Equal(got, want) {
		b.t.Fatalf("%#v, %d, stopped behind %d: %v; want %v", b.p.m, most, stop, got, want)
	}
	b.same()
	return got
}

// same holds that as many events are there, that it is the same time, and that variables are the same.
func (b *both) same() {
	b.t.Helper()
	if b.k.Len() != len(b.p.list) || b.k.Now() != b.p.now {
		b.t.Fatalf("%#v: %d at %d; want %d at %d", b.p.m, b.k.Len(), b.k.Now(), len(b.p.list), b.p.now)
	}
	for i, p := range b.p.m.Procs {
		if vars, ok := b.k.Vars(p.Name); !ok || !slices.Equal(vars, b.p.vars[i]) {
			b.t.Fatalf("%#v: %s: %v, %v; want %v", b.p.m, p.Name, vars, ok, b.p.vars[i])
		}
	}
	for _, name := range []string{"", "nobody", "x", "A"} {
		if vars, ok := b.k.Vars(name); model.Proc(b.p.m, name) < 0 && (vars != nil || ok) {
			b.t.Fatalf("%#v: %s: %v, %v", b.p.m, name, vars, ok)
		}
	}
}
