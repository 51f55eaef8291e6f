package rule

import (
	"slices"

	"sandtable/api"
	"sandtable/scalar"
)

// running is a process's variables as they are, what comes with the event, and what was sent.
type running struct {
	places map[string]int // each variable's, by its name
	vars   []int64
	value  int64
	sent   []Send
}

// begin is a process before its steps run; the variables are a copy, so that steps can turn them, and be given up.
func begin(p api.Proc, vars []int64, value int64) running {
	places := make(map[string]int, len(p.Vars))
	// Of several variables of one name the first one is meant: it is put in last.
	for i, v := range slices.Backward(p.Vars) {
		places[v.Name] = i
	}
	return running{places: places, vars: slices.Clone(vars), value: value}
}

// writes tells whether a step is of a kind that writes a variable.
func writes(s api.Step) bool {
	return s.Kind == api.Put || s.Kind == api.Add || s.Kind == api.Mul
}

// can tells whether a step, and its argument, is of a kind that there is, and each variable is there.
func (r *running) can(s api.Step) bool {
	if _, ok := r.argument(s.Arg); !ok {
		return false
	}
	if writes(s) {
		return r.variable(s.Name) != nil
	}
	return s.Kind == api.Send
}

// step runs a step that can be; false, if a number would go round.
func (r *running) step(s api.Step) bool {
	n, _ := r.argument(s.Arg)
	if s.Kind == api.Send {
		r.sent = append(r.sent, Send{Link: s.Name, Value: n})
		return true
	}
	x, ok := r.variable(s.Name), true
	switch s.Kind {
	case api.Put:
		*x = n
	case api.Add:
		*x, ok = scalar.Add(*x, n)
	case api.Mul:
		*x, ok = scalar.Mul(*x, n)
	}
	return ok
}

// argument is what a step takes, as it is now, and true; false, if there is no such thing.
func (r *running) argument(a api.Arg) (int64, bool) {
	switch a.Kind {
	case api.Number:
		return a.N, true
	case api.Value:
		return r.value, true
	case api.Variable:
		if x := r.variable(a.Name); x != nil {
			return *x, true
		}
	}
	return 0, false
}

// variable is where a variable of that name is; nil, if there is none.
func (r *running) variable(name string) *int64 {
	i, ok := r.places[name]
	if !ok {
		return nil
	}
	return &r.vars[i]
}
