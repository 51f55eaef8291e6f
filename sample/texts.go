package sample

import (
	"slices"
	"strconv"
	"strings"

	"sandtable/api"
)

// Tokens is what the text of a model is written with, token by token, if its names are words: declarations of all kinds among each other, variables among steps, each kind in its own order; a weight of 0 is told or not.
func (s *Numbers) Tokens(m api.Model) []string {
	var procs, links, events [][]string
	for _, p := range m.Procs {
		procs = append(procs, s.procTokens(p))
	}
	for _, l := range m.Links {
		decl := []string{"link", l.Name, "from", l.From, "to", l.To, "delay", figures(l.Delay)}
		links = append(links, slices.Concat(decl, s.weightTokens(l.Weight), []string{";"}))
	}
	for _, e := range m.Events {
		events = append(events, []string{"event", e.To, "at", figures(e.At), "value", figures(e.Value), ";"})
	}
	tokens := []string{"model", figures(int64(m.Version)), "{"}
	return append(slices.Concat(tokens, s.merge(procs, links, events)), "}")
}

func (s *Numbers) procTokens(p api.Proc) []string {
	var vars, steps [][]string
	for _, v := range p.Vars {
		vars = append(vars, []string{"var", v.Name, "=", figures(v.Init), ";"})
	}
	for _, step := range p.Steps {
		word := []string{"put", "add", "mul", "send"}[step.Kind-api.Put]
		steps = append(steps, []string{word, step.Name, argToken(step.Arg), ";"})
	}
	head := slices.Concat([]string{"proc", p.Name}, s.weightTokens(p.Weight), []string{"{"})
	return append(slices.Concat(head, s.merge(vars, steps)), "}")
}

func (s *Numbers) weightTokens(n int64) []string {
	if n == 0 && s.Next(4) > 0 {
		return nil
	}
	return []string{"weight", figures(n)}
}

func argToken(a api.Arg) string {
	return []string{figures(a.N), a.Name, "value"}[a.Kind]
}

func figures(n int64) string {
	return strconv.FormatInt(n, 10)
}

// merge is the tokens of all things of some lists, each list in its own order.
func (s *Numbers) merge(lists ...[][]string) []string {
	var all []string
	for {
		lists = slices.DeleteFunc(lists, func(list [][]string) bool { return len(list) == 0 })
		if len(lists) == 0 {
			return all
		}
		at := s.Next(len(lists))
		all = append(all, lists[at][0]...)
		lists[at] = lists[at][1:]
	}
}

// Spread is a text of tokens, with blanks of all kinds where there must be some, and here and there where there may be; and where each token begins, and the text ends.
func (s *Numbers) Spread(tokens []string) (text string, places []int) {
	blanks := []string{" ", "\t", "\r", "\n", "  ", "#\n", "# { x 1 \x00 \xff \u00e9 #\r\n", " # -0\n\n\t"}
	var b strings.Builder
	for i, t := range tokens {
		if i > 0 && joined(tokens[i-1], t) || s.Next(3) == 0 {
			b.WriteString(blanks[s.Next(len(blanks))])
		}
		places = append(places, b.Len())
		b.WriteString(t)
	}
	b.WriteString([]string{"", "\n", "# to the end", " "}[s.Next(4)])
	return b.String(), append(places, b.Len())
}

// joined tells whether two tokens would be one, or none, without a blank between them.
func joined(a, b string) bool {
	const apart = "{}=;"
	return a != "" && b != "" && !strings.Contains(apart, a) && !strings.Contains(apart, b) && b[0] != '-'
}
