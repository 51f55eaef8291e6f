package show

import (
	"strconv"
	"strings"

	"sandtable/api"
)

// words are the words of the kinds of steps.
var words = [...]string{
	api.Put:  "put",
	api.Add:  "add",
	api.Mul:  "mul",
	api.Send: "send",
}

// teller is told lines, till it wants no more of them. Like it, each call below tells whether more are wanted.
type teller func(line string) bool

// line tells a line of some pieces, one behind the other.
func (t teller) line(pieces ...string) bool {
	return t(strings.Join(pieces, ""))
}

func (t teller) model(m api.Model) bool {
	return t.line("model ", strconv.Itoa(m.Version), " {") &&
		all(m.Procs, t.proc) &&
		all(m.Links, t.link) &&
		all(m.Events, t.event) &&
		t.line("}")
}

func (t teller) proc(p api.Proc) bool {
	if len(p.Vars) == 0 && len(p.Steps) == 0 {
		return t.line("  proc ", p.Name, weight(p.Weight), " {}")
	}
	return t.line("  proc ", p.Name, weight(p.Weight), " {") &&
		all(p.Vars, t.variable) &&
		all(p.Steps, t.step) &&
		t.line("  }")
}

func (t teller) variable(v api.Var) bool {
	return t.line("    var ", v.Name, " = ", figures(v.Init), ";")
}

func (t teller) step(s api.Step) bool {
	return t.line("    ", word(s.Kind), " ", s.Name, " ", arg(s.Arg), ";")
}

func (t teller) link(l api.Link) bool {
	return t.line("  link ", l.Name, " from ", l.From, " to ", l.To, " delay ", figures(l.Delay), weight(l.Weight), ";")
}

func (t teller) event(e api.Event) bool {
	return t.line("  event ", e.To, " at ", figures(e.At), " value ", figures(e.Value), ";")
}

// all tells one thing of a list after the other, as long as more is wanted.
func all[T any](list []T, tell func(T) bool) bool {
	for _, x := range list {
		if !tell(x) {
			return false
		}
	}
	return true
}

// weight is a weight, and its word ahead; nothing, if it is 0.
func weight(n int64) string {
	if n == 0 {
		return ""
	}
	return " weight " + figures(n)
}

// word is the word of a kind of steps.
func word(kind int) string {
	if kind < api.Put || kind > api.Send {
		return words[api.Put]
	}
	return words[kind]
}

func arg(a api.Arg) string {
	switch a.Kind {
	case api.Number:
		return figures(a.N)
	case api.Variable:
		return a.Name
	}
	return "value"
}

func figures(n int64) string {
	return strconv.FormatInt(n, 10)
}
