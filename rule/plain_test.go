package rule_test

import (
	"math/big"
	"slices"
	"testing"

	"sandtable/api"
	"sandtable/rule"
)

// answer is all that Run answers.
type answer struct {
	vars []int64
	sent []rule.Send
	e    api.Errno
}

// plain is what Run must answer, reckoned with numbers that have no bounds.
func plain(p api.Proc, vars []int64, value int64) answer {
	if len(vars) != len(p.Vars) {
		return answer{e: 1}
	}
	for _, s := range p.Steps {
		if !there(p, s) {
			return answer{e: 21}
		}
	}
	var now []*big.Int
	for _, n := range vars {
		now = append(now, big.NewInt(n))
	}
	var sent []rule.Send
	for _, s := range p.Steps {
		n := new(big.Int)
		switch s.Arg.Kind {
		case 0:
			n.SetInt64(s.Arg.N)
		case 1:
			n.Set(now[first(p, s.Arg.Name)])
		case 2:
			n.SetInt64(value)
		}
		if s.Kind == 4 {
			sent = append(sent, rule.Send{Link: s.Name, Value: n.Int64()})
			continue
		}
		x := now[first(p, s.Name)]
		switch s.Kind {
		case 1:
			x.Set(n)
		case 2:
			x.Add(x, n)
		case 3:
			x.Mul(x, n)
		}
		if !x.IsInt64() {
			return answer{e: 30}
		}
	}
	behind := make([]int64, len(now))
	for i, n := range now {
		behind[i] = n.Int64()
	}
	return answer{behind, sent, 0}
}

// first is the first place of a variable of that name, or -1.
func first(p api.Proc, name string) int {
	return slices.IndexFunc(p.Vars, func(v api.Var) bool { return v.Name == name })
}

// there tells whether a step and its argument are of kinds that there are, and name variables that are there.
func there(p api.Proc, s api.Step) bool {
	return s.Kind >= 1 && s.Kind <= 4 && s.Arg.Kind >= 0 && s.Arg.Kind <= 2 &&
		(s.Kind == 4 || first(p, s.Name) >= 0) && (s.Arg.Kind != 1 || first(p, s.Arg.Name) >= 0)
}

// ran holds that Run answers what it must.
func ran(t *testing.T, p api.Proc, vars []int64, value int64) answer {
	t.Helper()
	var got answer
	got.vars, got.sent, got.e = rule.Run(p, vars, value)
	want := plain(p, vars, value)
	if !same(got, want) {
		t.Fatalf("%#v, %v, %d: %v; want %v", p, vars, value, got, want)
	}
	return got
}

// same tells whether two answers are the same, list by list; with an error the lists are none.
func same(got, want answer) bool {
	if want.e != 0 {
		return got.e == want.e && got.vars == nil && got.sent == nil
	}
	return got.e == 0 && slices.Equal(got.vars, want.vars) && slices.Equal(got.sent, want.sent)
}
