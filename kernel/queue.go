package kernel

import (
	"cmp"

	"sandtable/api"
	"sandtable/heap"
	"sandtable/rule"
	"sandtable/scalar"
)

// event is what is to happen: when, to the process at which place, with which value.
type event struct {
	at    int64
	proc  int
	value int64
}

// way is where a link leads, and how long that takes.
type way struct {
	to    int
	delay int64
}

// sooner tells whether an event is ahead of another one; of those that are equal the queue takes out first what was put in first.
func sooner(a, b event) bool {
	return cmp.Or(cmp.Compare(a.at, b.at), cmp.Compare(a.proc, b.proc)) < 0
}

// begin is a kernel for a right model, laid down, whose lists are the kernel's own.
func begin(m api.Model) *Kernel {
	k := &Kernel{
		procs:  m.Procs,
		places: make(map[string]int, len(m.Procs)),
		links:  make(map[string]way, len(m.Links)),
		queue:  *heap.New(sooner),
	}
	for i, p := range m.Procs {
		k.vars = append(k.vars, rule.Start(p))
		k.places[p.Name] = i
	}
	for _, l := range m.Links {
		k.links[l.Name] = way{k.places[l.To], l.Delay}
	}
	for _, e := range m.Events {
		k.queue.Push(event{e.At, k.places[e.To], e.Value})
	}
	return k
}

// arrivals is the events that come of what is sent at a time; ErrOver, if a time would go round.
func (k *Kernel) arrivals(at int64, sent []rule.Send) ([]event, api.Errno) {
	coming := make([]event, len(sent))
	for i, s := range sent {
		l := k.links[s.Link]
		then, ok := scalar.Add(at, l.delay)
		if !ok {
			return nil, api.ErrOver
		}
		coming[i] = event{then, l.to, s.Value}
	}
	return coming, api.OK
}

// holds tells whether the queue may hold so many more, once the least event is out: there may be more than MaxQueue just as long as they grow no more.
func (k *Kernel) holds(more int) bool {
	there := k.Len()
	return there-1+more <= max(api.MaxQueue, there)
}

func (k *Kernel) put(coming []event) {
	for _, x := range coming {
		k.queue.Push(x)
	}
}
