package show_test

import (
	"fmt"
	"strings"

	"sandtable/api"
)

// plain is what Print must answer.
func plain(m api.Model) string {
	var b strings.Builder
	fmt.Fprintf(&b, "model %d {\n", m.Version)
	for _, p := range m.Procs {
		fmt.Fprintf(&b, "  proc %s%s {", p.Name, weighing(p.Weight))
		for i := 0; i < len(p.Vars)+len(p.Steps); i++ {
			if i < len(p.Vars) {
				fmt.Fprintf(&b, "\n    var %s = %d;", p.Vars[i].Name, p.Vars[i].Init)
			} else {
				fmt.Fprintf(&b, "\n    %s;", stepping(p.Steps[i-len(p.Vars)]))
			}
			if i == len(p.Vars)+len(p.Steps)-1 {
				fmt.Fprint(&b, "\n  ")
			}
		}
		fmt.Fprint(&b, "}\n")
	}
	for _, l := range m.Links {
		fmt.Fprintf(&b, "  link %s from %s to %s delay %d%s;\n", l.Name, l.From, l.To, l.Delay, weighing(l.Weight))
	}
	for _, e := range m.Events {
		fmt.Fprintf(&b, "  event %s at %d value %d;\n", e.To, e.At, e.Value)
	}
	return b.String() + "}\n"
}

// lines is a text's lines, each of which has an end.
func lines(text string) []string {
	all := strings.Split(text, "\n")
	return all[:len(all)-1]
}

func weighing(n int64) string {
	if n == 0 {
		return ""
	}
	return fmt.Sprint(" weight ", n)
}

func stepping(s api.Step) string {
	word, known := map[int]string{1: "put", 2: "add", 3: "mul", 4: "send"}[s.Kind]
	if !known {
		word = "put"
	}
	arg, known := map[int]string{0: fmt.Sprint(s.Arg.N), 1: s.Arg.Name}[s.Arg.Kind]
	if !known {
		arg = "value"
	}
	return word + " " + s.Name + " " + arg
}
