package show_test

import (
	"math"
	"reflect"
	"slices"
	"strings"
	"testing"

	"sandtable/api"
	"sandtable/canon"
	"sandtable/copies"
	"sandtable/model"
	"sandtable/read"
	"sandtable/sample"
	"sandtable/show"
)

const num = 1 << 40

// wild is a model with anything, whatever it is, in each of its fields.
func wild(s *sample.Numbers, m api.Model) api.Model {
	m = copies.Model(m)
	names := []string{"", " ", "a", "value", "A", "?", "a b", "0", "-1", "{}", ";", "#", "\x00", "\xff", "é", "\t", "weight", strings.Repeat("z", 200)}
	numbers := []int64{math.MinInt64, -num - 1, -77, -1, 0, 0, 1, 5, 1000, 1 << 32, num + 1, math.MaxInt64}
	name := func() string { return names[s.Next(len(names))] }
	number := func() int64 { return numbers[s.Next(len(numbers))] }
	kind := func() int { return s.Next(9) - 2 }
	m.Version = int(number())
	for i, p := range m.Procs {
		m.Procs[i].Name, m.Procs[i].Weight = name(), number()
		for k := range p.Vars {
			p.Vars[k] = api.Var{Name: name(), Init: number()}
		}
		for k := range p.Steps {
			p.Steps[k] = api.Step{Kind: kind(), Name: name(), Arg: api.Arg{Kind: kind(), N: number(), Name: name()}}
		}
	}
	for i := range m.Links {
		m.Links[i] = api.Link{Name: name(), From: name(), To: name(), Delay: number(), Weight: number()}
	}
	for i := range m.Events {
		m.Events[i] = api.Event{To: name(), At: number(), Value: number()}
	}
	return m
}

// models are models of all kinds: right ones of each version, ones that are one thing away from right, and ones with anything in them; no name has a line end in it.
func models() []api.Model {
	all := append(sample.Turned(sample.Model()), sample.Model(), words(), api.Model{}, api.Model{Version: 3})
	for s := range sample.Numbers(200) {
		m := s.Model(1+s.Next(3), s.Next(6), s.Next(6), s.Next(6))
		all = append(all, m, wild(&s, m))
	}
	return all
}

// words is a right model whose names are all words that a text is written with, and whose numbers are at their bounds.
func words() api.Model {
	m := api.Model{Version: 2}
	names := []string{"weight", "from", "model", "proc", "link", "event", "to", "delay", "at", "var", "put", "add", "mul", "send", strings.Repeat("z", 64)}
	for i, name := range names {
		next := names[(i+1)%len(names)]
		m.Procs = append(m.Procs, api.Proc{
			Name:   name,
			Weight: []int64{0, 1, 1 << 20}[i%3],
			Vars:   []api.Var{{Name: next, Init: []int64{-num, 0, num}[i%3]}, {Name: name}},
			Steps: []api.Step{
				{Kind: api.Put, Name: name, Arg: api.Arg{Kind: api.Variable, Name: next}},
				{Kind: api.Add, Name: next, Arg: api.Arg{N: -num}},
				{Kind: api.Mul, Name: next, Arg: api.Arg{N: num}},
				{Kind: api.Send, Name: name, Arg: api.Arg{Kind: api.Value}},
			},
		})
		m.Links = append(m.Links, api.Link{Name: name, From: name, To: next, Delay: []int64{1, num, 1000}[i%3], Weight: []int64{1 << 20, 0, 1}[i%3]})
		m.Events = append(m.Events, api.Event{To: name, At: []int64{0, num, 1}[i%3], Value: []int64{num, -num, 0}[i%3]})
	}
	m.Procs = append(m.Procs, api.Proc{Name: "value"})
	m.Links = append(m.Links, api.Link{Name: "value", From: "value", To: "value", Delay: 1})
	m.Events = append(m.Events, api.Event{To: "value"})
	return m
}

// P19.1: texts, written out: the chapter's, and all that a line hangs on.
func TestPrintWrittenOut(t *testing.T) {
	step := func(kind, arg int) api.Step {
		return api.Step{Kind: kind, Name: "x", Arg: api.Arg{Kind: arg, N: 7, Name: "y"}}
	}
	for _, c := range []struct {
		m    api.Model
		want string
	}{
		{api.Model{}, "model 0 {\n}\n"},
		{api.Model{Version: 3}, "model 3 {\n}\n"},
		{api.Model{Version: math.MinInt, Procs: []api.Proc{}, Links: []api.Link{}, Events: []api.Event{}}, "model -9223372036854775808 {\n}\n"},
		{
			api.Model{
				Version: 3,
				Procs: []api.Proc{
					{Name: "a", Weight: 2, Vars: []api.Var{{Name: "x", Init: -1}}, Steps: []api.Step{
						{Kind: api.Put, Name: "x", Arg: api.Arg{Kind: api.Value}},
						{Kind: api.Send, Name: "l", Arg: api.Arg{N: 4}},
					}},
					{Name: "b"},
				},
				Links:  []api.Link{{Name: "l", From: "a", To: "b", Delay: 5, Weight: 1}},
				Events: []api.Event{{To: "a", At: 1, Value: 7}},
			},
			"model 3 {\n  proc a weight 2 {\n    var x = -1;\n    put x value;\n    send l 4;\n  }\n  proc b {}\n  link l from a to b delay 5 weight 1;\n  event a at 1 value 7;\n}\n",
		},
		{
			api.Model{Procs: []api.Proc{{Name: "b", Weight: -1}, {Name: "a", Weight: 1, Vars: []api.Var{}, Steps: []api.Step{}}, {}}},
			"model 0 {\n  proc b weight -1 {}\n  proc a weight 1 {}\n  proc  {}\n}\n",
		},
		{
			api.Model{Procs: []api.Proc{{Name: "a", Vars: []api.Var{{Name: "y"}, {Name: "x", Init: math.MaxInt64}, {}}}, {Name: "a", Weight: 5, Steps: []api.Step{step(3, 0)}}}},
			"model 0 {\n  proc a {\n    var y = 0;\n    var x = 9223372036854775807;\n    var  = 0;\n  }\n  proc a weight 5 {\n    mul x 7;\n  }\n}\n",
		},
		{
			api.Model{Procs: []api.Proc{{Steps: []api.Step{step(-1, 0), step(0, 1), step(1, 2), step(2, 0), step(3, 1), step(4, 2), step(5, 0), step(1<<32+2, 1), step(math.MinInt, 2), step(math.MaxInt, 0)}}}},
			"model 0 {\n  proc  {\n    put x 7;\n    put x y;\n    put x value;\n    add x 7;\n    mul x y;\n    send x value;\n    put x 7;\n    put x y;\n    put x value;\n    put x 7;\n  }\n}\n",
		},
		{
			api.Model{Procs: []api.Proc{{Steps: []api.Step{step(1, -1), step(2, 3), step(3, 1<<32), step(4, 1<<32+1), step(4, math.MinInt), {Kind: 4}, {Kind: 4, Arg: api.Arg{Kind: 1}}}}}},
			"model 0 {\n  proc  {\n    put x value;\n    add x value;\n    mul x value;\n    send x value;\n    send x value;\n    send  0;\n    send  ;\n  }\n}\n",
		},
		{
			api.Model{Version: 1, Links: []api.Link{{}, {Name: "l", From: "z", To: "y", Delay: -5, Weight: math.MinInt64}, {Name: "k", From: "a b", To: "#", Delay: 1}}, Events: []api.Event{{}, {To: "?", At: -1, Value: math.MinInt64}}},
			"model 1 {\n  link  from  to  delay 0;\n  link l from z to y delay -5 weight -9223372036854775808;\n  link k from a b to # delay 1;\n  event  at 0 value 0;\n  event ? at -1 value -9223372036854775808;\n}\n",
		},
	} {
		if got := show.Print(c.m); got != c.want {
			t.Errorf("%q; want %q", got, c.want)
		}
	}
}

// P19.1: the text of whichever model, and its lines.
func TestPrint(t *testing.T) {
	for _, m := range models() {
		want := plain(m)
		if got := show.Print(m); got != want {
			t.Fatalf("%#v: %q; want %q", m, got, want)
		}
		if got := slices.Collect(show.Lines(m)); !slices.Equal(got, lines(want)) {
			t.Fatalf("%#v: %q; want those of %q", m, got, want)
		}
	}
}

// P19.1: what stands in a model stands in its text, a line end in a name too.
func TestLineEnds(t *testing.T) {
	m := api.Model{Version: 3, Procs: []api.Proc{{Name: "a\nb", Steps: []api.Step{{Name: "\n", Arg: api.Arg{Kind: api.Variable, Name: "\r\n"}}}}}, Links: []api.Link{{Name: "l\n"}}, Events: []api.Event{{To: "\n\n"}}}
	text := show.Print(m)
	if text != plain(m) || strings.Join(slices.Collect(show.Lines(m)), "\n")+"\n" != text {
		t.Errorf("%q; want %q", text, plain(m))
	}
}

// P19.1: lines may be gone through again, within themselves too, and stopped at any place.
func TestLinesAgain(t *testing.T) {
	m := sample.Model()
	want := lines(plain(m))
	if !sample.Gone(show.Lines(m), want) {
		t.Errorf("not %q", want)
	}
}

// P19.1: no line is made behind the last one that is asked for.
func TestNoMoreIsMade(t *testing.T) {
	s := sample.Numbers(1)
	m := s.Model(3, 1000, 1000, 1000)
	for i := range m.Procs {
		m.Procs[i].Vars, m.Procs[i].Steps = nil, nil
	}
	seq := show.Lines(m)
	none := testing.AllocsPerRun(5, func() { seq = show.Lines(m) })
	one := testing.AllocsPerRun(5, func() { seq(func(string) bool { return false }) })
	all := testing.AllocsPerRun(5, func() { seq(func(string) bool { return true }) })
	if none > 100 || all-one < 2000 {
		t.Errorf("%v things made for none, %v for one, %v for all", none, one, all)
	}
}

// P2: what is handed in, and the memory behind it, isn't turned.
func TestModelIsLeft(t *testing.T) {
	for _, m := range models() {
		m = sample.Roomy(m)
		was := sample.Behind(m)
		show.Print(m)
		for range show.Lines(m) {
		}
		if now := sample.Behind(m); !reflect.DeepEqual(now, was) {
			t.Fatalf("%#v; was %#v", now, was)
		}
	}
}

// P2: what is handed in isn't kept: lines stay, if it is written over behind the call.
func TestModelIsNotKept(t *testing.T) {
	m := sample.Model()
	want := lines(plain(m))
	seq := show.Lines(m)
	sample.Spoil(m)
	if got := slices.Collect(seq); !slices.Equal(got, want) {
		t.Errorf("written over behind the call: %q", got)
	}
	for stop := range want {
		m := sample.Model()
		var got []string
		for line := range show.Lines(m) {
			if got = append(got, line); len(got) == stop+1 {
				sample.Spoil(m)
			}
		}
		if !slices.Equal(got, want) {
			t.Errorf("written over behind %d lines: %q", stop+1, got)
		}
	}
}

// right are right models, of each version.
func right() []api.Model {
	return slices.DeleteFunc(models(), func(m api.Model) bool { return model.Check(m) != (api.Fault{}) })
}

// P19.2: a right model that is printed is parsed as it.
func TestParsed(t *testing.T) {
	if f := model.Check(words()); f != (api.Fault{}) {
		t.Fatalf("%#v", f)
	}
	versions := [4]int{}
	for _, m := range right() {
		versions[m.Version]++
		text := show.Print(m)
		got, f := read.Parse(text)
		if f != (api.Fault{}) || !canon.Same(got, m) {
			t.Fatalf("%q: %#v, %#v; want %#v", text, got, f, m)
		}
	}
	if min(versions[1], versions[2], versions[3]) < 50 {
		t.Errorf("%v", versions)
	}
}

// formatted is what Format must answer.
func formatted(text string) (string, api.Fault) {
	m, f := read.Parse(text)
	if f != (api.Fault{}) {
		return "", f
	}
	if f = model.Check(m); f != (api.Fault{}) {
		return "", f
	}
	return plain(canon.Canon(m)), api.Fault{}
}

// P19.1, P19.2: texts of right models, in whichever order and with whichever blanks, are formatted as one, which stays the same.
func TestFormat(t *testing.T) {
	for i, m := range right() {
		s := sample.Numbers(i)
		want := plain(canon.Canon(m))
		for range 3 {
			text, _ := s.Spread(s.Tokens(s.Mix(m)))
			got, f := show.Format(text)
			if f != (api.Fault{}) || got != want {
				t.Fatalf("%q: %q, %#v; want %q", text, got, f, want)
			}
			if again, f := show.Format(got); again != got || f != (api.Fault{}) {
				t.Fatalf("%q, again: %q, %#v", got, again, f)
			}
		}
	}
}

// P19.1: texts of all kinds: ones that can't be read, of wrong models, and of right ones.
func TestFormatAny(t *testing.T) {
	seen := map[api.Errno]int{}
	tried := func(text string) {
		want, fault := formatted(text)
		if got, f := show.Format(text); got != want || f != fault {
			t.Fatalf("%q: %q, %#v; want %q, %#v", text, got, f, want, fault)
		}
		seen[fault.E]++
	}
	for _, m := range models() {
		tried(plain(m))
	}
	tokens := strings.Fields(plain(words()))
	for i, w := range tokens {
		tried(strings.Join(tokens[:i], " "))
		tried(strings.Join(slices.Delete(slices.Clone(tokens), i, i+1), " "))
		tried(strings.Join(slices.Insert(slices.Clone(tokens), i, w), " "))
	}
	for _, e := range []api.Errno{api.OK, api.ErrForm, api.ErrShort, api.ErrRange, api.ErrVersion, api.ErrName, api.ErrTwice, api.ErrNone, api.ErrOwner, api.ErrWeight, api.ErrDelay} {
		if seen[e] == 0 {
			t.Errorf("no text with %d", e)
		}
	}
}

// P19.1: what is formatted, and faults, written out.
func TestFormatWrittenOut(t *testing.T) {
	for _, c := range []struct {
		text, want string
		f          api.Fault
	}{
		{"model 3 {}", "model 3 {\n}\n", api.Fault{}},
		{"# none\nmodel 1{ }", "model 1 {\n}\n", api.Fault{}},
		{
			"model 2 { event b at 1 value 2; proc b weight 0 {} event a at 1 value 2; link l from b to a delay 1; event a at 0 value 3; proc a { put y x; var y = 1; put x 1; var x = 0; } }",
			"model 2 {\n  proc a {\n    var x = 0;\n    var y = 1;\n    put y x;\n    put x 1;\n  }\n  proc b {}\n  link l from b to a delay 1;\n  event a at 0 value 3;\n  event a at 1 value 2;\n  event b at 1 value 2;\n}\n",
			api.Fault{},
		},
		{"", "", api.Fault{E: api.ErrShort}},
		{"model 3 {} ;", "", api.Fault{E: api.ErrMore, At: 11}},
		{"model 3 {} model 3 {}", "", api.Fault{E: api.ErrMore, At: 11}},
		{"model 3 { proc a { var x = -0; } }", "", api.Fault{E: api.ErrForm, At: 27}},
		{"model 4 { event a at 0 value 0 }", "", api.Fault{E: api.ErrForm, At: 31}},
		{"model 4 { event a at 0 value 1099511627777; }", "", api.Fault{E: api.ErrRange, At: 29}},
		{"model 4 { event a at 0 value 0; }", "", api.Fault{E: api.ErrVersion}},
		{"model 3 { proc _ weight 1 {} }", "", api.Fault{E: api.ErrName, At: 1}},
		{"model 3 { proc b {} proc a weight 1 {} }", "", api.Fault{E: api.ErrWeight, At: 1}},
		{"model 3 { proc b weight 1 {} proc a {} }", "", api.Fault{E: api.ErrWeight, At: 2}},
		{"model 3 { event c at 0 value 0; link l from a to c delay 1 weight 1; proc b weight 1 {} proc a weight 1 {} }", "", api.Fault{E: api.ErrNone, At: 3}},
		{"model 3 { proc a weight 1 { var value = 0; } }", "", api.Fault{E: api.ErrName, At: 1}},
		{"model 3 { proc a weight 1 { send l 1; } proc b weight 1 {} link l from b to a delay 1 weight 1; }", "", api.Fault{E: api.ErrOwner, At: 1}},
	} {
		if got, f := show.Format(c.text); got != c.want || f != c.f {
			t.Errorf("%q: %q, %#v; want %q, %#v", c.text, got, f, c.want, c.f)
		}
	}
}

// P19.1, P19.2: long texts: as long as one may be, longer, and of as many things of each kind as may be.
func TestLong(t *testing.T) {
	const most = 1 << 22
	text := "model 3 {}" + strings.Repeat(" ", most-10)
	if got, f := show.Format(text); got != "model 3 {\n}\n" || f != (api.Fault{}) {
		t.Errorf("%q, %#v", got, f)
	}
	if got, f := show.Format(text + " "); got != "" || f != (api.Fault{E: api.ErrLong}) {
		t.Errorf("one more: %q, %#v", got, f)
	}
	s := sample.Numbers(1)
	m := s.Model(3, 4096, 16384, 16384)
	text = show.Print(m)
	if got, f := read.Parse(text); text != plain(m) || f != (api.Fault{}) || !canon.Same(got, m) {
		t.Errorf("%d bytes: %#v", len(text), f)
	}
	want := plain(canon.Canon(m))
	if got, f := show.Format(text); got != want || f != (api.Fault{}) {
		t.Errorf("%d bytes: %d, %#v; want %d", len(text), len(got), f, len(want))
	}
	if again, f := show.Format(want); again != want || f != (api.Fault{}) {
		t.Errorf("%d bytes, again: %d, %#v", len(want), len(again), f)
	}
}
