package rule_test

import (
	"math"
	"reflect"
	"slices"
	"strings"
	"testing"

	"sandtable/api"
	"sandtable/rule"
	"sandtable/sample"
)

const (
	most  = math.MaxInt64
	least = math.MinInt64
)

func num(n int64) api.Arg {
	return api.Arg{Kind: api.Number, N: n}
}

func of(name string) api.Arg {
	return api.Arg{Kind: api.Variable, Name: name}
}

func value() api.Arg {
	return api.Arg{Kind: api.Value}
}

func put(name string, a api.Arg) api.Step {
	return api.Step{Kind: api.Put, Name: name, Arg: a}
}

func add(name string, a api.Arg) api.Step {
	return api.Step{Kind: api.Add, Name: name, Arg: a}
}

func mul(name string, a api.Arg) api.Step {
	return api.Step{Kind: api.Mul, Name: name, Arg: a}
}

func send(name string, a api.Arg) api.Step {
	return api.Step{Kind: api.Send, Name: name, Arg: a}
}

// proc is a process with variables of these names, and steps.
func proc(names string, steps ...api.Step) api.Proc {
	p := api.Proc{Name: "p", Weight: 1, Steps: steps}
	for _, name := range strings.Fields(names) {
		p.Vars = append(p.Vars, api.Var{Name: name, Init: int64(len(p.Vars)) - 1})
	}
	return p
}

// steps are steps of all kinds, such that there can't be too, with arguments of all kinds.
func steps(names []string, numbers ...int64) []api.Step {
	args := []api.Arg{value(), {Kind: -1}, {Kind: 3}, {Kind: math.MinInt}, {Kind: 1 << 32}}
	for _, n := range numbers {
		args = append(args, num(n))
	}
	for _, name := range names {
		args = append(args, of(name))
	}
	var all []api.Step
	for _, kind := range []int{-1, 0, 1, 2, 3, 4, 5, math.MaxInt, 1<<32 + 1} {
		for _, name := range names {
			for _, a := range args {
				all = append(all, api.Step{Kind: kind, Name: name, Arg: a})
			}
		}
	}
	return all
}

// P26.1: each step alone, and each two one behind the other, of numbers near what goes round.
func TestEveryTwoSteps(t *testing.T) {
	seen := map[api.Errno]int{}
	all := steps([]string{"x", "y", "z"}, 0, -1, most)
	for i, a := range all {
		for _, x := range []int64{0, 1, -1, 1 << 31, 1<<31 + 1, -1 << 32, most, least} {
			for _, v := range []int64{0, 1, -1, 1 << 32, most, least} {
				seen[ran(t, proc("y x", a), []int64{x, x / 3}, v).e]++
			}
		}
		for k, b := range all {
			vars := []int64{int64(i%5) - 2, int64(k%7) - 3}
			seen[ran(t, proc("x y", a, b), vars, most/4).e]++
		}
	}
	if seen[api.OK] < 1000 || seen[api.ErrForm] < 1000 || seen[api.ErrOver] < 400 {
		t.Errorf("%v", seen)
	}
}

// P26.1: many steps, by a short rule, most of them such that there can be.
func TestMany(t *testing.T) {
	seen := map[api.Errno]int{}
	names := []string{"x", "y", "a", "value", "x_2"}
	all := steps(names, 0, 1, -1, 2, -3, 1<<20)
	p := proc(strings.Join(names, " "))
	right := slices.DeleteFunc(slices.Clone(all), func(s api.Step) bool { return !there(p, s) })
	for s := range sample.Numbers(3000) {
		p.Steps = nil
		for range s.Next(40) {
			p.Steps = append(p.Steps, right[s.Next(len(right))])
		}
		if s.Next(9) == 0 {
			p.Steps = append(p.Steps, all[s.Next(len(all))])
		}
		vars := make([]int64, max(0, len(p.Vars)-s.Next(20)/19))
		for i := range vars {
			vars[i] = int64(s.Next(1<<24)) - 1<<23
		}
		seen[ran(t, p, vars, int64(s.Next(7))-3).e]++
	}
	for _, e := range []api.Errno{api.OK, api.ErrArg, api.ErrForm, api.ErrOver} {
		if seen[e] < 50 {
			t.Errorf("%v", seen)
		}
	}
}

// P26.1: steps, written out.
func TestWrittenOut(t *testing.T) {
	for i, c := range []struct {
		p     api.Proc
		vars  []int64
		value int64
		want  answer
	}{
		{api.Proc{}, nil, 7, answer{}},
		{proc("x y"), []int64{4, -9}, 7, answer{vars: []int64{4, -9}}},
		{proc("x", put("x", value()), add("x", num(1)), send("l", of("x"))), []int64{0}, 4, answer{[]int64{5}, []rule.Send{{Link: "l", Value: 5}}, 0}},
		{proc("x y", put("y", of("x"))), []int64{4, 9}, 7, answer{vars: []int64{4, 4}}},
		{proc("x y", put("y", value()), put("x", of("y")), put("y", num(-2))), []int64{4, 9}, 7, answer{vars: []int64{7, -2}}},
		{proc("x y", add("x", of("y")), add("y", of("x"))), []int64{4, 9}, 0, answer{vars: []int64{13, 22}}},
		{proc("x", add("x", of("x")), mul("x", of("x")), mul("x", num(-1))), []int64{3}, 0, answer{vars: []int64{-36}}},
		{proc("x", send("m", of("x")), add("x", num(1)), send("l", of("x")), send("m", value()), send("m", num(least))), []int64{3}, most, answer{[]int64{4}, []rule.Send{{Link: "m", Value: 3}, {Link: "l", Value: 4}, {Link: "m", Value: most}, {Link: "m", Value: least}}, 0}},
		{proc("", send("", num(0)), send("no link", num(1))), nil, 0, answer{nil, []rule.Send{{Link: "", Value: 0}, {Link: "no link", Value: 1}}, 0}},
		{proc("x", put("x", num(most)), put("x", num(least)), add("x", num(0)), mul("x", num(1))), []int64{0}, 0, answer{vars: []int64{least}}},
		{proc("x", mul("x", num(0)), add("x", num(2))), []int64{least}, 0, answer{vars: []int64{2}}},
		// An argument's other fields say nothing.
		{proc("x y", put("x", api.Arg{Kind: api.Number, N: 5, Name: "z"}), add("x", api.Arg{Kind: api.Value, N: 1, Name: "y"}), mul("x", api.Arg{Kind: api.Variable, N: 9, Name: "y"})), []int64{1, -2}, 3, answer{vars: []int64{-16, -2}}},
		// Any name may be a variable's, and of several of one name the first is meant.
		{api.Proc{Vars: []api.Var{{Name: ""}, {Name: "value"}, {Name: "\xff"}}, Steps: []api.Step{add("", of("value")), put("value", of("\xff")), add("\xff", value())}}, []int64{1, 2, 3}, 4, answer{vars: []int64{3, 3, 7}}},
		{proc("y x x x", add("x", num(1)), put("y", of("x"))), []int64{0, 10, 20, 30}, 0, answer{vars: []int64{11, 11, 20, 30}}},
		// What the process has at first says nothing here.
		{api.Proc{Vars: []api.Var{{Name: "x", Init: most}}, Steps: []api.Step{add("x", num(1))}}, []int64{1}, 0, answer{vars: []int64{2}}},
	} {
		var got answer
		got.vars, got.sent, got.e = rule.Run(c.p, c.vars, c.value)
		if !same(got, c.want) || !same(plain(c.p, c.vars, c.value), c.want) {
			t.Errorf("case %d: %v; want %v", i, got, c.want)
		}
	}
}

// P26.1: errors, written out, in their order.
func TestErrors(t *testing.T) {
	over := []api.Step{put("x", num(most)), add("x", num(1))}
	wrong := api.Step{Kind: 5, Name: "x"}
	for i, c := range []struct {
		p    api.Proc
		vars []int64
		e    api.Errno
	}{
		{proc("x"), nil, api.ErrArg},
		{proc("x"), []int64{1, 2}, api.ErrArg},
		{proc(""), []int64{1}, api.ErrArg},
		{proc("x x"), []int64{1}, api.ErrArg},
		{proc("x", wrong), []int64{1, 2}, api.ErrArg},
		{proc("x", over...), nil, api.ErrArg},
		{proc("x", wrong), []int64{1}, api.ErrForm},
		{proc("x", api.Step{Kind: 0, Name: "x"}), []int64{1}, api.ErrForm},
		{proc("x", api.Step{Kind: -1, Name: "x"}), []int64{1}, api.ErrForm},
		{proc("x", put("y", num(1))), []int64{1}, api.ErrForm},
		{proc("x", add("X", num(1))), []int64{1}, api.ErrForm},
		{proc("x", mul("", num(1))), []int64{1}, api.ErrForm},
		{proc("x", put("x", of("y"))), []int64{1}, api.ErrForm},
		{proc("x", add("x", of(""))), []int64{1}, api.ErrForm},
		{proc("x", send("x", of("l"))), []int64{1}, api.ErrForm},
		{proc("", send("l", of("l"))), nil, api.ErrForm},
		{proc("x", put("x", api.Arg{Kind: 3, Name: "x"})), []int64{1}, api.ErrForm},
		{proc("x", mul("x", api.Arg{Kind: -1, Name: "x"})), []int64{1}, api.ErrForm},
		{proc("x", send("l", api.Arg{Kind: 3})), []int64{1}, api.ErrForm},
		{proc("x", send("l", num(1)), wrong, send("l", num(1))), []int64{1}, api.ErrForm},
		// What can't be is told ahead of what goes round, wherever it stands.
		{proc("x", append(slices.Clone(over), wrong)...), []int64{1}, api.ErrForm},
		{proc("x", append(slices.Clone(over), send("l", of("y")))...), []int64{1}, api.ErrForm},
		{proc("x", append(slices.Clone(over), put("y", num(1)))...), []int64{1}, api.ErrForm},
		{proc("x", over...), []int64{1}, api.ErrOver},
		{proc("x", append(slices.Clone(over), put("x", num(1)))...), []int64{1}, api.ErrOver},
		{proc("x", append([]api.Step{send("l", num(1))}, over...)...), []int64{1}, api.ErrOver},
		{proc("x", add("x", num(most))), []int64{1}, api.ErrOver},
		{proc("x", add("x", num(most))), []int64{0}, api.OK},
		{proc("x", add("x", num(least))), []int64{-1}, api.ErrOver},
		{proc("x", add("x", num(least))), []int64{0}, api.OK},
		{proc("x", mul("x", num(1<<32))), []int64{1 << 31}, api.ErrOver},
		{proc("x", mul("x", num(-1<<32))), []int64{1 << 31}, api.OK},
		{proc("x", mul("x", num(-1))), []int64{least}, api.ErrOver},
		{proc("x", mul("x", num(least))), []int64{-1}, api.ErrOver},
		{proc("x", mul("x", num(-1))), []int64{most}, api.OK},
		{proc("x", mul("x", of("x"))), []int64{3037000499}, api.OK},
		{proc("x", mul("x", of("x"))), []int64{3037000500}, api.ErrOver},
	} {
		vars, sent, e := rule.Run(c.p, c.vars, 0)
		if e != c.e || e != api.OK && (vars != nil || sent != nil) {
			t.Errorf("case %d: %v, %v, %d; want %d", i, vars, sent, e, c.e)
		}
	}
}

// great is a process of so many variables, of names of their own, and so many steps, each of which adds the variable ahead, or 1, to one.
func great(vars, steps int) api.Proc {
	s := sample.Numbers(1)
	p := api.Proc{}
	for _, name := range s.Names(vars) {
		p.Vars = append(p.Vars, api.Var{Name: name, Init: 1})
	}
	for i := range steps {
		p.Steps = append(p.Steps, add(p.Vars[i%vars].Name, num(1)), send("l", of(p.Vars[(i+1)%vars].Name)))
	}
	return p
}

// P1, P26.1: more variables and steps than a right process has; what is asked of them ends soon.
func TestGreat(t *testing.T) {
	const n = 1 << 18
	p := great(n, n)
	vars, sent, e := rule.Run(p, rule.Start(p), 0)
	if e != api.OK || len(vars) != n || len(sent) != n {
		t.Fatalf("%d, %d, %d", len(vars), len(sent), e)
	}
	for i := range n {
		if want := int64(1 + (i+1)/n); vars[i] != 2 || sent[i] != (rule.Send{Link: "l", Value: want}) {
			t.Fatalf("%d: %d, %v", i, vars[i], sent[i])
		}
	}
	at := 0
	for name := range rule.Writes(p) {
		if name != p.Vars[at].Name {
			t.Fatalf("%d: %q", at, name)
		}
		at++
	}
	if at != n {
		t.Errorf("%d", at)
	}
}

// P26.2: what no step writes stays; as much is sent, along the same links, as there are steps that send.
func TestStaysAndSends(t *testing.T) {
	stayed, wrote, sends := 0, 0, 0
	for s := range sample.Numbers(2000) {
		m := s.Model(3, 1+s.Next(4), s.Next(9), 0)
		for _, p := range m.Procs {
			vars := make([]int64, len(p.Vars))
			for i := range vars {
				vars[i] = int64(s.Next(100)) - 50
			}
			behind, sent, e := rule.Run(p, vars, int64(s.Next(100)))
			if e != api.OK {
				continue
			}
			written := slices.Collect(rule.Writes(p))
			for i, v := range p.Vars {
				if slices.Contains(written, v.Name) {
					wrote++
				} else if stayed++; behind[i] != vars[i] {
					t.Fatalf("%#v: %s was %d, is %d", p, v.Name, vars[i], behind[i])
				}
			}
			var links, want []string
			for _, x := range sent {
				links = append(links, x.Link)
			}
			for _, step := range p.Steps {
				if step.Kind == api.Send {
					want = append(want, step.Name)
				}
			}
			if !slices.Equal(links, want) {
				t.Fatalf("%#v: sent along %q", p, links)
			}
			sends += len(sent)
		}
	}
	if stayed < 500 || wrote < 500 || sends < 500 {
		t.Errorf("%d, %d, %d", stayed, wrote, sends)
	}
}

// P26.1: what the variables are at first.
func TestStart(t *testing.T) {
	for _, c := range []struct {
		p    api.Proc
		want []int64
	}{
		{api.Proc{}, nil},
		{api.Proc{Vars: []api.Var{}}, nil},
		{api.Proc{Vars: []api.Var{{Name: "y", Init: -1}, {Name: "x", Init: 0}}}, []int64{-1, 0}},
		{api.Proc{Vars: []api.Var{{Name: "x", Init: most}, {Name: "x", Init: least}, {Init: 7}}, Steps: []api.Step{put("x", num(3))}}, []int64{most, least, 7}},
	} {
		if got := rule.Start(c.p); !slices.Equal(got, c.want) {
			t.Errorf("%#v: %v", c.p, got)
		}
	}
	for n := range 70 {
		p := great(n+1, 0)
		if got := rule.Start(p); !slices.Equal(got, slices.Repeat([]int64{1}, n+1)) {
			t.Errorf("%v", got)
		}
	}
}

// P26.1: which variables are written: by steps of three kinds, each once, in the order in which they come, gone through as often as one likes.
func TestWrites(t *testing.T) {
	for _, c := range []struct {
		p    api.Proc
		want []string
	}{
		{api.Proc{}, nil},
		{proc("x y"), nil},
		{proc("x y", send("x", of("y")), send("l", num(1))), nil},
		{proc("x y", put("y", num(1)), add("x", of("y"))), []string{"y", "x"}},
		{proc("x y z", mul("z", num(1)), add("x", num(1)), put("z", num(1)), send("y", num(1)), add("z", num(1)), put("y", num(1)), mul("x", num(1))), []string{"z", "x", "y"}},
		{proc("x x", put("x", num(1)), put("x", num(1))), []string{"x"}},
		{proc("x y z", api.Step{Kind: 0, Name: "x"}, api.Step{Kind: 5, Name: "y"}, api.Step{Kind: -1, Name: "y"}, api.Step{Kind: 1<<32 + 1, Name: "y"}, put("z", api.Arg{Kind: 7})), []string{"z"}},
		{proc("x", put("y", num(1)), add("", num(1)), put("X", num(1))), []string{"y", "", "X"}},
		{proc("", put("x", num(1))), []string{"x"}},
	} {
		if !sample.Gone(rule.Writes(c.p), c.want) {
			t.Errorf("%#v: %q; want %q", c.p, slices.Collect(rule.Writes(c.p)), c.want)
		}
	}
}

// P2: what is gone through is what there was at the call.
func TestWritesIsKept(t *testing.T) {
	p := proc("x y z", put("x", num(1)), add("y", num(1)), mul("z", num(1)))
	seq := rule.Writes(p)
	p.Steps[0] = send("l", num(1))
	var got []string
	for name := range seq {
		got = append(got, name)
		clear(p.Steps)
	}
	if !slices.Equal(got, []string{"x", "y", "z"}) || !sample.Gone(seq, got) {
		t.Errorf("%q", got)
	}
}

// P26.2, P2: what is handed in, and the memory behind it, isn't turned, whatever is answered.
func TestLeft(t *testing.T) {
	seen := map[api.Errno]int{}
	for s := range sample.Numbers(500) {
		m := sample.Roomy(s.Model(3, 1+s.Next(3), s.Next(5), 0))
		was := sample.Behind(m)
		for _, p := range m.Procs {
			if s.Next(9) == 0 && len(p.Steps) > 0 {
				p.Steps = p.Steps[:len(p.Steps)+1] // what stands behind them is wrong
			}
			memory := []int64{1, -2, 1 << 40, 4, 5, 6}
			vars := memory[:len(p.Vars)+s.Next(9)/8]
			_, _, e := rule.Run(p, vars, 1<<20)
			seen[e]++
			rule.Start(p)
			for range rule.Writes(p) {
			}
			if !slices.Equal(memory, []int64{1, -2, 1 << 40, 4, 5, 6}) {
				t.Fatalf("%#v: %v", p, memory)
			}
		}
		if now := sample.Behind(m); !reflect.DeepEqual(now, was) {
			t.Fatalf("%#v; was %#v", now, was)
		}
	}
	for _, e := range []api.Errno{api.OK, api.ErrArg, api.ErrForm, api.ErrOver} {
		if seen[e] < 5 {
			t.Errorf("%v", seen)
		}
	}
}

// P2: what is answered is new memory, spare room too, though no step writes any of it.
func TestOwnMemory(t *testing.T) {
	for _, p := range []api.Proc{proc("x y"), proc("x y", add("x", num(0)), send("l", num(1)), send("m", num(2)))} {
		memory := []int64{3, 4, 5}
		vars, sent, _ := rule.Run(p, memory[:2], 0)
		again, sentAgain, _ := rule.Run(p, memory[:2], 0)
		clear(vars[:cap(vars)])
		clear(sent[:cap(sent)])
		if !slices.Equal(memory, []int64{3, 4, 5}) || !slices.Equal(again, memory[:2]) || slices.Contains(sentAgain, rule.Send{}) {
			t.Errorf("%#v: %v, %v, %v", p, memory, again, sentAgain)
		}
		clear(memory)
		if !slices.Equal(again, []int64{3, 4}) {
			t.Errorf("%#v: %v", p, again)
		}
		first, second := rule.Start(p), rule.Start(p)
		clear(first[:cap(first)])
		clear(p.Vars)
		if !slices.Equal(second, []int64{-1, 0}) {
			t.Errorf("%#v: %v", p, second)
		}
	}
}

// The chapter's example.
func TestExample(t *testing.T) {
	p := proc("x", put("x", value()), add("x", num(1)), send("l", of("x")))
	vars, sent, e := rule.Run(p, []int64{0}, 4)
	if e != api.OK || !slices.Equal(vars, []int64{5}) || !slices.Equal(sent, []rule.Send{{Link: "l", Value: 5}}) {
		t.Errorf("%v, %v, %d", vars, sent, e)
	}
}
