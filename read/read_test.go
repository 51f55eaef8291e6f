package read_test

import (
	"reflect"
	"slices"
	"strings"
	"testing"

	"sandtable/api"
	"sandtable/canon"
	"sandtable/copies"
	"sandtable/model"
	"sandtable/read"
	"sandtable/sample"
)

const num = 1 << 40

// parsed is what Parse and Models answer of a text, held against plain, and against each other.
func parsed(t *testing.T, text string) (api.Model, []api.Model, api.Fault) {
	t.Helper()
	n, several, one := plain(text)
	m, f := read.Parse(text)
	if f != one || f != (api.Fault{}) && !reflect.DeepEqual(m, api.Model{}) {
		t.Fatalf("%.300q: %+v, %+v; want %+v", text, m, f, one)
	}
	list, fault := gone(t, text)
	if len(list) != n || fault != several {
		t.Fatalf("models of %.300q: %d, %+v; want %d, %+v", text, len(list), fault, n, several)
	}
	if one == (api.Fault{}) && !canon.Same(m, list[0]) {
		t.Fatalf("%.300q: %+v, %+v", text, m, list[0])
	}
	return m, list, f
}

// gone is what Models goes through: the models without a fault, and the fault.
func gone(t *testing.T, text string) (list []api.Model, fault api.Fault) {
	t.Helper()
	for m, f := range read.Models(text) {
		if fault != (api.Fault{}) || f != (api.Fault{}) && !reflect.DeepEqual(m, api.Model{}) {
			t.Fatalf("%.300q: something with a fault, or behind it", text)
		}
		if fault = f; f == (api.Fault{}) {
			list = append(list, m)
		}
	}
	return list, fault
}

// named is a model with words of all kinds for its names, keywords and ones that are no right names among them.
func named(s *sample.Numbers, m api.Model) api.Model {
	words := []string{"model", "proc", "link", "event", "weight", "from", "to", "delay", "at", "value", "var", "put", "add", "mul", "send", "_", "_9", "a", "x_9", strings.Repeat("z", 65)}
	some := func() string { return words[s.Next(len(words))] }
	for i, p := range m.Procs {
		m.Procs[i].Name = some()
		for k := range p.Vars {
			p.Vars[k].Name = some()
		}
		for k := range p.Steps {
			p.Steps[k].Name = some()
			if a := &p.Steps[k].Arg; a.Kind == api.Variable {
				for a.Name = some(); a.Name == "value"; a.Name = some() {
				}
			}
		}
	}
	for i := range m.Links {
		m.Links[i].Name, m.Links[i].From, m.Links[i].To = some(), some(), some()
	}
	for i := range m.Events {
		m.Events[i].To = some()
	}
	return m
}

// numbered is a model with numbers at the bounds, and among them, wherever it has one.
func numbered(s *sample.Numbers, m api.Model) api.Model {
	bounds := []int64{-num, -num + 1, -1 << 32, -1, 0, 1, 1 << 20, 1<<20 + 1, 1 << 31, 1 << 32, num - 1, num}
	some := func() int64 { return bounds[s.Next(len(bounds))] }
	m.Version = int(some())
	for i, p := range m.Procs {
		m.Procs[i].Weight = some()
		for k := range p.Vars {
			p.Vars[k].Init = some()
		}
		for k := range p.Steps {
			if a := &p.Steps[k].Arg; a.Kind == api.Number {
				a.N = some()
			}
		}
	}
	for i := range m.Links {
		m.Links[i].Delay, m.Links[i].Weight = some(), some()
	}
	for i := range m.Events {
		m.Events[i].At, m.Events[i].Value = some(), some()
	}
	return m
}

// models are models of all kinds that a text may have: right ones, ones with any words for names, or any numbers.
func models() []api.Model {
	all := []api.Model{sample.Model(), {}, {Version: 3}, {Version: -num}}
	for s := range sample.Numbers(150) {
		m := s.Model(1+s.Next(3), s.Next(6), s.Next(6), s.Next(6))
		all = append(all, m, named(&s, copies.Model(m)), numbered(&s, copies.Model(m)), numbered(&s, named(&s, copies.Model(m))))
	}
	return all
}

// P18.1, P18.2: what a model's text is parsed as is the model, with the text's words and numbers, wherever declarations and blanks stand.
func TestModels(t *testing.T) {
	right, wrong := 0, 0
	for i, m := range models() {
		s := sample.Numbers(i)
		for range 3 {
			text, _ := s.Spread(s.Tokens(m))
			got, _, f := parsed(t, text)
			if f != (api.Fault{}) || !canon.Same(got, m) {
				t.Fatalf("%q: %+v, %+v; want %+v", text, got, f, m)
			}
		}
		if model.Check(m) == (api.Fault{}) {
			right++
		} else {
			wrong++
		}
	}
	if right < 100 || wrong < 100 {
		t.Errorf("%d right, %d wrong", right, wrong)
	}
}

// P18.2: all words that stand for names, and all numbers, of a text are those of what is parsed, and in their order: each one that is turned turns one there.
func TestWordsAndNumbers(t *testing.T) {
	s := sample.Numbers(1)
	tokens := s.Tokens(sample.Model())
	was := sample.Model()
	for i, w := range tokens {
		own := slices.Clone(tokens)
		own[i] = "-77"
		if w[0] == '-' || '0' <= w[0] && w[0] <= '9' {
			text, _ := s.Spread(own)
			if m, f := read.Parse(text); f != (api.Fault{}) || strings.Count(told(m), "-77") != 1 || canon.Same(m, was) {
				t.Errorf("%q: %+v, %+v", text, m, f)
			}
		}
		own[i] = "turned_9"
		text, _ := s.Spread(own)
		if m, f := read.Parse(text); f == (api.Fault{}) && (strings.Count(told(m), "turned_9") != 1 || canon.Same(m, was)) {
			t.Errorf("%q: %+v", text, m)
		}
	}
}

// told is a model, with its names and numbers in order.
func told(m api.Model) string {
	var s sample.Numbers
	return strings.Join(s.Tokens(m), " ")
}

// vocabulary is a token of each kind: all certain words and signs, other words, and numbers.
func vocabulary() []string {
	return []string{"model", "proc", "link", "event", "weight", "from", "to", "delay", "at", "value", "var", "put", "add", "mul", "send", "x", "_", "0", "-7", "{", "}", "=", ";"}
}

// P18.1: a text that ends behind any token, or in which any one is left out, stands twice, trades places with the next one, or is another one, or has another one ahead.
func TestTurnedTexts(t *testing.T) {
	seen := map[api.Errno]int{}
	for s := range sample.Numbers(4) {
		tokens := s.Tokens(sample.Model())
		tried := func(tokens ...[]string) {
			text, _ := s.Spread(slices.Concat(tokens...))
			_, _, f := parsed(t, text)
			seen[f.E]++
		}
		for i := range tokens {
			tried(tokens[:i])
			tried(tokens[:i], tokens[i+1:])
			tried(tokens[:i+1], tokens[i:])
			if i+1 < len(tokens) {
				tried(tokens[:i], []string{tokens[i+1], tokens[i]}, tokens[i+2:])
			}
			for _, w := range vocabulary() {
				tried(tokens[:i], []string{w}, tokens[i+1:])
				tried(tokens[:i], []string{w}, tokens[i:])
				tried(tokens[:i], []string{w})
			}
		}
		for _, w := range vocabulary() {
			tried(tokens, []string{w})
		}
	}
	for _, e := range []api.Errno{api.OK, api.ErrShort, api.ErrForm, api.ErrMore} {
		if seen[e] < 50 {
			t.Errorf("%d of %d", seen[e], e)
		}
	}
}

// P18.1: each short run of tokens, by itself and behind the beginning of something.
func TestShortTexts(t *testing.T) {
	for _, ahead := range []string{"", "model", "model 3", "model 3 {", "model 3 { proc a", "model 3 { proc a weight", "model 3 { proc a {", "model 3 { proc a { var x", "model 3 { proc a { put x", "model 3 { proc a { put x value",
		"model 3 { link l", "model 3 { link l from a", "model 3 { link l from a to b", "model 3 { link l from a to b delay 5", "model 3 { event a", "model 3 { event a at 1", "model 3 { event a at 1 value", "model 3 { }"} {
		for _, a := range vocabulary() {
			parsed(t, ahead+" "+a)
			for _, b := range vocabulary() {
				parsed(t, ahead+" "+a+" "+b)
				if ahead == "" {
					continue
				}
				for _, c := range []string{"model", "weight", "at", "x", "0", "{", "}", ";"} {
					parsed(t, ahead+" "+a+" "+b+" "+c)
				}
			}
		}
	}
}

// P18.1: faults, written out.
func TestFaults(t *testing.T) {
	for _, c := range []struct {
		text string
		f    api.Fault
	}{
		{"", api.Fault{E: api.ErrShort}},
		{" # model 3 {}\n", api.Fault{E: api.ErrShort, At: 14}},
		{"model 3 {  # }", api.Fault{E: api.ErrShort, At: 14}},
		{"model 3", api.Fault{E: api.ErrShort, At: 7}},
		{"modal", api.Fault{E: api.ErrForm}},
		{"3", api.Fault{E: api.ErrForm}},
		{"}", api.Fault{E: api.ErrForm}},
		{"model model 3 {}", api.Fault{E: api.ErrForm, At: 6}},
		{"model 3 }", api.Fault{E: api.ErrForm, At: 8}},
		{"model 3 {;}", api.Fault{E: api.ErrForm, At: 9}},
		{"model 3 { proc 3 {} }", api.Fault{E: api.ErrForm, At: 15}},
		{"model 3 { proc a; }", api.Fault{E: api.ErrForm, At: 16}},
		{"model 3 { proc a weight 1 weight 1 {} }", api.Fault{E: api.ErrForm, At: 26}},
		{"model 3 { proc a { var x = y; } }", api.Fault{E: api.ErrForm, At: 27}},
		{"model 3 { proc a { set x 1; } }", api.Fault{E: api.ErrForm, At: 19}},
		{"model 3 { proc a { put 1 x; } }", api.Fault{E: api.ErrForm, At: 23}},
		{"model 3 { proc a { put x {; } }", api.Fault{E: api.ErrForm, At: 25}},
		{"model 3 { proc a { put x 1 } }", api.Fault{E: api.ErrForm, At: 27}},
		{"model 3 { proc a { send l value value; } }", api.Fault{E: api.ErrForm, At: 32}},
		{"model 3 { proc a { } ; }", api.Fault{E: api.ErrForm, At: 21}},
		{"model 3 { link l to b from a delay 1; }", api.Fault{E: api.ErrForm, At: 17}},
		{"model 3 { link l from a to b delay x; }", api.Fault{E: api.ErrForm, At: 35}},
		{"model 3 { link l from a to b weight 1 delay 1; }", api.Fault{E: api.ErrForm, At: 29}},
		{"model 3 { link l from a to b delay 1 }", api.Fault{E: api.ErrForm, At: 37}},
		{"model 3 { event a value 1 at 1; }", api.Fault{E: api.ErrForm, At: 18}},
		{"model 3 { event a at 1 value 1 weight 1; }", api.Fault{E: api.ErrForm, At: 31}},
		{"model 3 { model 3 { } }", api.Fault{E: api.ErrForm, At: 10}},
		{"model 3 {} model 3 {}", api.Fault{E: api.ErrMore, At: 11}},
		{"model 3 {};", api.Fault{E: api.ErrMore, At: 10}},
		{"model 3 {} # }\n0", api.Fault{E: api.ErrMore, At: 15}},
		{"modal A", api.Fault{E: api.ErrForm, At: 6}},
		{"modal 1099511627777", api.Fault{E: api.ErrRange, At: 6}},
		{"model 3 {} } 00", api.Fault{E: api.ErrForm, At: 13}},
		{"model 3 { event a at 1 value 1099511627777; }", api.Fault{E: api.ErrRange, At: 29}},
	} {
		if m, _, f := parsed(t, c.text); f != c.f || m.Version != 0 {
			t.Errorf("%q: %+v, %+v", c.text, m, f)
		}
	}
}

// P18.1: layer 17's fault, wherever it is in a text, comes ahead of all else.
func TestTokenFaults(t *testing.T) {
	s := sample.Numbers(1)
	tokens := s.Tokens(sample.Model())
	for i := range len(tokens) + 1 {
		for _, c := range []struct {
			w string
			e api.Errno
		}{{"A", api.ErrForm}, {"00", api.ErrForm}, {"-", api.ErrForm}, {"\xff", api.ErrForm}, {"1099511627777", api.ErrRange}} {
			for _, list := range [][]string{tokens, slices.Insert(slices.Clone(tokens), 5, "}"), slices.Insert(slices.Clone(tokens), len(tokens), "}")} {
				text, places := s.Spread(slices.Insert(slices.Clone(list), i, " ", c.w, " "))
				if _, all, f := parsed(t, text); f != (api.Fault{E: c.e, At: places[i+1]}) || all != nil {
					t.Fatalf("%q: %d, %+v; want %d at %d", text, len(all), f, c.e, places[i+1])
				}
			}
		}
	}
}

// P18.1: texts of as many bytes as may be, and of one more.
func TestLongTexts(t *testing.T) {
	const most = 1 << 22
	for _, c := range []struct {
		ahead, of, behind string
		times             func(m api.Model) int
	}{
		{"model 3 {", "proc a{}", "}", func(m api.Model) int { return len(m.Procs) }},
		{"model 3 {", "event a at 0 value 0;", "}", func(m api.Model) int { return len(m.Events) }},
		{"model 3 {", "link l from a to b delay 0;", "}", func(m api.Model) int { return len(m.Links) }},
		{"model 3 { proc a {", "put a 0;", "} }", func(m api.Model) int { return len(m.Procs[0].Steps) }},
		{"model 3 { proc a {", "var a=0;", "} }", func(m api.Model) int { return len(m.Procs[0].Vars) }},
	} {
		times := (most - len(c.ahead+c.behind)) / len(c.of)
		text := c.ahead + strings.Repeat(c.of, times) + c.behind
		text += strings.Repeat(" ", most-len(text))
		if m, f := read.Parse(text); f != (api.Fault{}) || c.times(m) != times {
			t.Errorf("%q: %+v", c.of, f)
		}
		if m, f := read.Parse(text + " "); f != (api.Fault{E: api.ErrLong}) || !reflect.DeepEqual(m, api.Model{}) {
			t.Errorf("%q, and one more: %+v", c.of, f)
		}
		if list, f := gone(t, text+" "); f != (api.Fault{E: api.ErrLong}) || list != nil {
			t.Errorf("models of %q, and one more: %+v", c.of, f)
		}
	}
	const one = "model 3{}"
	if list, f := gone(t, strings.Repeat(one, most/len(one))); f != (api.Fault{}) || len(list) != most/len(one) {
		t.Errorf("%d models, %+v", len(list), f)
	}
}

// P18.1: the models of a text, each whatever it is, up to the first fault.
func TestSeveral(t *testing.T) {
	all := models()
	for s := range sample.Numbers(100) {
		var want []api.Model
		var tokens []string
		for range s.Next(5) {
			m := all[s.Next(len(all))]
			want, tokens = append(want, m), append(tokens, s.Tokens(m)...)
		}
		text, _ := s.Spread(tokens)
		if _, list, _ := parsed(t, text); !slices.EqualFunc(list, want, canon.Same) {
			t.Fatalf("%q: %+v", text, list)
		}
		for _, w := range vocabulary() {
			own, places := s.Spread(append(slices.Clone(tokens), w))
			_, several, _ := plain(own)
			if _, list, _ := parsed(t, own); !slices.EqualFunc(list, want, canon.Same) || w != "model" && several != (api.Fault{E: api.ErrForm, At: places[len(tokens)]}) {
				t.Fatalf("%q: %+v", own, list)
			}
		}
	}
	for i, c := range []struct {
		text     string
		versions []int
		f        api.Fault
	}{
		{"", nil, api.Fault{}},
		{" \t\r\n# model", nil, api.Fault{}},
		{"model 1 {} model 1 {}", []int{1, 1}, api.Fault{}},
		{"model 1{}model -2{}model 0{}", []int{1, -2, 0}, api.Fault{}},
		{"model 1 {} model 2 {", []int{1}, api.Fault{E: api.ErrShort, At: 20}},
		{"model 1 {} model 2 { x } model 3 {}", []int{1}, api.Fault{E: api.ErrForm, At: 21}},
		{"model 1 {} } model 2 {}", []int{1}, api.Fault{E: api.ErrForm, At: 11}},
		{"x", nil, api.Fault{E: api.ErrForm}},
		{"model 1 {} model 2 {} 0x", nil, api.Fault{E: api.ErrForm, At: 22}},
		{"model 1 {} modal 2 {} 0x", nil, api.Fault{E: api.ErrForm, At: 22}},
	} {
		var versions []int
		list, f := gone(t, c.text)
		for _, m := range list {
			versions = append(versions, m.Version)
		}
		if f != c.f || !slices.Equal(versions, c.versions) {
			t.Errorf("case %d: %v, %+v", i, versions, f)
		}
	}
}

// P18.1: models may be gone through again, within themselves too, and stopped at any place.
func TestAgain(t *testing.T) {
	for _, text := range []string{"", "A", "x", "model 1 {} model 2 { proc a { var x = 1; } } model 3 {}", "model 1 {} model 2 {} model x", "model 1 {} A"} {
		seq := read.Models(text)
		var want []api.Model
		var faults []api.Fault
		for m, f := range seq {
			if want, faults = append(want, m), append(faults, f); len(want) > len(text)+1 {
				t.Fatalf("%q: no end", text)
			}
		}
		for stop := 1; stop <= len(want); stop++ {
			n := 0
			seq(func(m api.Model, f api.Fault) bool {
				if !reflect.DeepEqual(m, want[n]) || f != faults[n] {
					t.Errorf("%q, stopped at %d: %+v, %+v", text, stop, m, f)
				}
				n++
				return n < stop
			})
			if n != stop {
				t.Errorf("%q, stopped at %d: %d", text, stop, n)
			}
		}
		rounds := 0
		for range seq {
			for range seq {
				rounds++
			}
		}
		if rounds != len(want)*len(want) {
			t.Errorf("%q: %d rounds within rounds", text, rounds)
		}
	}
}

// P18.1: nothing is made of a text that isn't gone through, and no model behind the last one that is asked for.
func TestNoMoreIsMade(t *testing.T) {
	text := strings.Repeat("model 3 { proc a { var x = 1; put x 1; } }", 1000)
	seq := read.Models(text)
	none := testing.AllocsPerRun(5, func() { seq = read.Models(text) })
	one := testing.AllocsPerRun(5, func() { seq(func(api.Model, api.Fault) bool { return false }) })
	all := testing.AllocsPerRun(5, func() { seq(func(api.Model, api.Fault) bool { return true }) })
	if none > 10 || all-one < 2000 {
		t.Errorf("%v things made for none, %v for one, %v for all", none, one, all)
	}
}

// P2: what is answered is new memory, which no other answer shares, and no other list of it.
func TestAnswersAreNew(t *testing.T) {
	s := sample.Numbers(1)
	want := s.Model(3, 9, 9, 9)
	text, _ := s.Spread(s.Tokens(want))
	a, _ := read.Parse(text)
	b, _ := read.Parse(text)
	sample.Spoil(a)
	if !canon.Same(b, want) {
		t.Errorf("%+v; want %+v", b, want)
	}
	for i, p := range b.Procs {
		clear(p.Vars[:cap(p.Vars)])
		clear(want.Procs[i].Vars)
		clear(p.Steps[len(p.Steps):cap(p.Steps)])
		if !canon.Same(b, want) {
			t.Fatalf("%+v; want %+v", b, want)
		}
	}
	want = sample.Model()
	text, _ = s.Spread(slices.Concat(s.Tokens(want), s.Tokens(want), s.Tokens(want)))
	n := 0
	seq := read.Models(text)
	for range 2 {
		for m := range seq {
			if !canon.Same(m, want) {
				t.Fatalf("%+v; want %+v", m, want)
			}
			sample.Spoil(m)
			n++
		}
	}
	if n != 6 {
		t.Errorf("%d models", n)
	}
}

// The chapter's example, and a text of each thing.
func TestExamples(t *testing.T) {
	if m, f := read.Parse("model 3 { }"); f != (api.Fault{}) || !reflect.DeepEqual(m, api.Model{Version: 3}) {
		t.Errorf("%+v, %+v", m, f)
	}
	const text = `
event b at 0 value -2;
link from from proc to value delay 5;
proc b weight 7 { send l value; var value = -1; put value 1; add x value; var x = 0; mul x value_; put put put; }
proc proc {}
link l from b to b delay 0 weight 0;
event value at 3 value 4;
proc b weight 0 {}
`
	want := api.Model{
		Version: 2,
		Procs: []api.Proc{
			{Name: "b", Weight: 7, Vars: []api.Var{{Name: "value", Init: -1}, {Name: "x"}}, Steps: []api.Step{
				{Kind: api.Send, Name: "l", Arg: api.Arg{Kind: api.Value}},
				{Kind: api.Put, Name: "value", Arg: api.Arg{N: 1}},
				{Kind: api.Add, Name: "x", Arg: api.Arg{Kind: api.Value}},
				{Kind: api.Mul, Name: "x", Arg: api.Arg{Kind: api.Variable, Name: "value_"}},
				{Kind: api.Put, Name: "put", Arg: api.Arg{Kind: api.Variable, Name: "put"}},
			}},
			{Name: "proc"}, {Name: "b"},
		},
		Links:  []api.Link{{Name: "from", From: "proc", To: "value", Delay: 5}, {Name: "l", From: "b", To: "b"}},
		Events: []api.Event{{To: "b", Value: -2}, {To: "value", At: 3, Value: 4}},
	}
	if m, _, f := parsed(t, "model 2 {"+text+"}"); f != (api.Fault{}) || !canon.Same(m, want) {
		t.Errorf("%+v, %+v; want %+v", m, f, want)
	}
}
