package tool_test

import (
	"bytes"
	"fmt"
	"slices"
	"strconv"
	"strings"
	"testing"

	"sandtable/api"
	"sandtable/canon"
	"sandtable/digest"
	"sandtable/kernel"
	"sandtable/read"
	"sandtable/sample"
	"sandtable/show"
	"sandtable/tool"
)

// clock is a model of two processes, of which a sends along a link to itself for ever, and to b.
const clock = "model 3 {\n  proc a weight 1 {\n    var x = 0;\n    add x value;\n    send l 2;\n    send m x;\n  }\n  proc b weight 2 {}\n  link l from a to a delay 3 weight 1;\n  link m from a to b delay 1 weight 1;\n  event a at 0 value 5;\n}\n"

// growing is a model whose numbers go round behind some steps.
const growing = "model 3 { proc a weight 1 { var x = 1099511627776; mul x x; send l 0; } link l from a to a delay 1 weight 1; event a at 7 value -1; }"

// filling is a model whose events are ever more.
const filling = "model 3 { proc a weight 1 { send l 0; send l 0; send l 0; } link l from a to a delay 1 weight 1; event a at 0 value 0; }"

// do is what Do answers of texts, as texts.
func do(cmd string, in ...string) ([]string, api.Fault) {
	out, f := tool.Do(cmd, lists(in))
	return texts(out), f
}

func lists(in []string) [][]byte {
	var list [][]byte
	for _, s := range in {
		list = append(list, []byte(s))
	}
	return list
}

func texts(out [][]byte) []string {
	var list []string
	for _, b := range out {
		list = append(list, string(b))
	}
	return list
}

// done is what a command answers that has no fault.
func done(t *testing.T, cmd string, in ...string) []string {
	t.Helper()
	out, f := do(cmd, in...)
	if f != (api.Fault{}) {
		t.Fatalf("%q of %q: %v", cmd, in, f)
	}
	return out
}

// held holds what Do answers.
func held(t *testing.T, cmd string, in ...string) ([]string, api.Fault) {
	t.Helper()
	out, f := do(cmd, in...)
	want, fault := plain(cmd, in)
	if !slices.Equal(out, want) || f != fault {
		t.Fatalf("%q of %q: %q, %v; want %q, %v", cmd, in, out, f, want, fault)
	}
	return out, f
}

// right are right models of a version, of all kinds and in no order.
func right(version int) []api.Model {
	var all []api.Model
	for s := range sample.Numbers(60) {
		all = append(all, s.Model(version, s.Next(9), s.Next(12), s.Next(9)))
	}
	return all
}

// written is a model's text, however it stands.
func written(s *sample.Numbers, m api.Model) string {
	text, _ := s.Spread(s.Tokens(m))
	return text
}

// inputs are texts, right ones and wrong ones of all kinds, and bundles, and fragments' bytes.
func inputs(t *testing.T) []string {
	all := []string{"", " ", "x", "model", "model 3 {", "model 3 {}", "model 0 {}", "model 4 {}", "model 3 {} model 3 {}", "SAND", "?", clock, growing, filling}
	for _, b := range []string{"", "SAN", "sand\x00", "SAND\x00", "SAND\x01"} {
		all = append(all, string(digest.Seal([]byte(b))))
	}
	all = append(all, "model 1 { link l from a to a delay 1099511628; proc a {} }", "model 1 { link l from a to a delay 1099511627; proc a {} }", "model 2 { proc b {} proc a {} }")
	for version := range 4 {
		for i, m := range right(version) {
			s := sample.Numbers(i)
			all = append(all, written(&s, m))
		}
	}
	for _, m := range append(sample.Turned(sample.Model()), sample.Model()) {
		all = append(all, show.Print(m))
	}
	for i, m := range right(3) {
		s := sample.Numbers(i)
		b := done(t, "compile", written(&s, m))[0]
		at := s.Next(len(b))
		all = append(all, b, b[:at], b[at:], string(sample.Burst([]byte(b), s.Next(8*len(b)), 5)))
		all = append(all, done(t, "split 2", b)...)
	}
	return all
}

// P28.1: each command, written out.
func TestWrittenOut(t *testing.T) {
	of := func(text string) string { return done(t, "compile", text)[0] }
	for _, c := range []struct{ cmd, in, want string }{
		{"format", "model 3 {}", "model 3 {\n}\n"},
		{"format", "model 2{proc b{}proc a{var y=1;var x=0;}}", "model 2 {\n  proc a {\n    var x = 0;\n    var y = 1;\n  }\n  proc b {}\n}\n"},
		{"format", clock, clock},
		{"upgrade", "model 3 {}", "model 3 {\n}\n"},
		{"upgrade", "model 1 {}", "model 3 {\n}\n"},
		{"upgrade", "model 1 { proc b {} proc a weight 4 {} link l from b to a delay 5; }", "model 3 {\n  proc a weight 4 {}\n  proc b weight 1 {}\n  link l from b to a delay 5000 weight 1;\n}\n"},
		{"upgrade", "model 2 { proc b {} proc a weight 4 {} link l from b to a delay 5; }", "model 3 {\n  proc a weight 4 {}\n  proc b weight 1 {}\n  link l from b to a delay 5 weight 1;\n}\n"},
		{"upgrade", strings.ReplaceAll(clock, "\n", "\r\n"), clock},
		{"decompile", of("model 1 {}"), "model 3 {\n}\n"},
		{"decompile", of("model 1 { event a at 1 value 7; proc a {} link l from a to a delay 5; }"), "model 3 {\n  proc a weight 1 {}\n  link l from a to a delay 5000 weight 1;\n  event a at 1 value 7;\n}\n"},
		{"decompile", of(clock), clock},
		{"run 0", of("model 3 {}"), "end 0\n"},
		{"run 1048576", of("model 3 {}"), "end 0\n"},
		{"run 0", of(clock), "end 70\n"},
		{"run 1", of(clock), "0 a 5\nend 70\n"},
		{"run 5", of(clock), "0 a 5\n1 b 5\n3 a 2\n4 b 7\n6 a 2\nend 70\n"},
		{"run 0", of(growing), "end 70\n"},
		{"run 1", of(growing), "end 30\n"},
		{"run 1", of("model 3 { proc a weight 1 {} event a at 1099511627776 value -1099511627776; }"), "1099511627776 a -1099511627776\nend 0\n"},
		{"run 2", of("model 3 { proc a weight 1 {} event a at 1 value 7; }"), "1 a 7\nend 0\n"},
		{"parts 1", of("model 3 {}"), ""},
		{"parts 4096", of("model 3 {}"), ""},
		{"parts 1", of(clock), "a 0\nb 0\n"},
		{"parts 1", of("model 3 { proc b weight 1 {} proc a weight 1 {} proc c weight 1 {} }"), "a 0\nb 0\nc 0\n"},
	} {
		if out, f := do(c.cmd, c.in); f != (api.Fault{}) || !slices.Equal(out, []string{c.want}) {
			t.Errorf("%q of %q: %q, %v; want %q", c.cmd, c.in, out, f, c.want)
		}
	}
	for _, text := range []string{"model 1 {}", "model 2 {}", "model 3 {}", clock, growing, "model 2 { proc b {} proc a {} }"} {
		if out, f := tool.Do("check", [][]byte{[]byte(text)}); out != nil || f != (api.Fault{}) {
			t.Errorf("check of %q: %q, %v", text, out, f)
		}
	}
}

// P28.1: all that goes wrong, written out, with where it is, if that is said.
func TestFaults(t *testing.T) {
	of := done(t, "compile", clock)[0]
	apart := done(t, "split 2", of)
	others := done(t, "split 2", done(t, "compile", "model 3 { proc a weight 1 {} proc b weight 1 {} }")[0])
	turned := of[:9] + "?" + of[10:]
	for _, c := range []struct {
		cmd string
		in  []string
		f   api.Fault
	}{
		{"check", []string{"model 3 {} ?"}, api.Fault{E: api.ErrForm, At: 11}},
		{"check", []string{"model 3 {} {"}, api.Fault{E: api.ErrMore, At: 11}},
		{"check", []string{"model 3 { event a at 1 value 1; "}, api.Fault{E: api.ErrShort, At: 32}},
		{"check", []string{"model 5 { event a at 1 value 1; }"}, api.Fault{E: api.ErrVersion}},
		{"check", []string{"model 3 { event b at 1 value 1; proc a weight 1 {} }"}, api.Fault{E: api.ErrNone, At: 2}},
		{"format", []string{"model 3 { proc b {} proc a weight 1 {} }"}, api.Fault{E: api.ErrWeight, At: 1}},
		{"format", []string{""}, api.Fault{E: api.ErrShort}},
		{"format", []string{"model 3 {"}, api.Fault{E: api.ErrShort, At: 9}},
		{"upgrade", []string{"model 1 { proc b {} proc a {} link m from a to a delay 1; link l from a to a delay 1099511628; }"}, api.Fault{E: api.ErrOver, At: 4}},
		{"upgrade", []string{"model 1 { proc a {} link l from a to b delay 1099511628; }"}, api.Fault{E: api.ErrNone, At: 2}},
		{"compile", []string{"model 1 { proc a {} link l from a to a delay 1099511628; }"}, api.Fault{E: api.ErrOver, At: 2}},
		{"compile", []string{"model 1 { proc a {} proc a {} }"}, api.Fault{E: api.ErrTwice, At: 2}},
		{"compile", []string{of}, api.Fault{E: api.ErrForm}},
		{"decompile", []string{clock}, api.Fault{E: api.ErrSum}},
		{"decompile", []string{""}, api.Fault{E: api.ErrShort}},
		{"decompile", []string{turned}, api.Fault{E: api.ErrSum}},
		{"decompile", []string{apart[0]}, api.Fault{E: api.ErrForm}},
		{"run 3", []string{apart[0]}, api.Fault{E: api.ErrForm}},
		{"run 0", []string{turned}, api.Fault{E: api.ErrSum}},
		{"parts 3", []string{"SAN"}, api.Fault{E: api.ErrShort}},
		{"split 3", []string{apart[1]}, api.Fault{E: api.ErrForm}},
		{"parts 0", []string{of}, api.Fault{E: api.ErrArg}},
		{"parts 4097", []string{of}, api.Fault{E: api.ErrArg}},
		{"parts 1048576", []string{of}, api.Fault{E: api.ErrArg}},
		{"split 0", []string{of}, api.Fault{E: api.ErrArg}},
		{"split 4097", []string{of}, api.Fault{E: api.ErrArg}},
		{"link", []string{apart[0]}, api.Fault{E: api.ErrCount}},
		{"link", []string{apart[0], apart[1], apart[0]}, api.Fault{E: api.ErrCount}},
		{"link", []string{apart[1], apart[1]}, api.Fault{E: api.ErrTwice}},
		{"link", []string{apart[0], others[1]}, api.Fault{E: api.ErrSet}},
		{"link", []string{apart[0], of}, api.Fault{E: api.ErrForm}},
		{"link", []string{turned, apart[0], ""}, api.Fault{E: api.ErrSum}},
		// Of several the first that goes wrong is told.
		{"sing", nil, api.Fault{E: api.ErrWord}},
		{"run", []string{"", ""}, api.Fault{E: api.ErrWord}},
		{"split 1048577", []string{"", ""}, api.Fault{E: api.ErrWord}},
		{"link 1", nil, api.Fault{E: api.ErrWord}},
		{"check", []string{"", ""}, api.Fault{E: api.ErrCount}},
		{"parts 0", []string{of, of}, api.Fault{E: api.ErrCount}},
		{"split 4097", nil, api.Fault{E: api.ErrCount}},
		{"parts 0", []string{""}, api.Fault{E: api.ErrShort}},
		{"split 4097", []string{turned}, api.Fault{E: api.ErrSum}},
	} {
		if out, f := tool.Do(c.cmd, lists(c.in)); out != nil || f != c.f {
			t.Errorf("%q of %q: %q, %v; want %v", c.cmd, c.in, out, f, c.f)
		}
	}
}

// P28.1: all commands, of all inputs.
func TestAllInputs(t *testing.T) {
	cmds := []string{"check", "format", "upgrade", "compile", "decompile", "link", "run 0", "run 1", "run 2", "run 30", "parts 0", "parts 1", "parts 2", "parts 3", "parts 9", "parts 4097", "split 0", "split 1", "split 2", "split 5", "split 1048576", "sing", "run"}
	all := inputs(t)
	seen := map[api.Errno]int{}
	for _, in := range all {
		for _, cmd := range cmds {
			_, f := held(t, cmd, in)
			seen[f.E]++
		}
	}
	for i, in := range all[:100] {
		for _, cmd := range cmds {
			held(t, cmd, in, all[(i+1)%len(all)])
		}
	}
	for _, e := range []api.Errno{api.OK, api.ErrWord, api.ErrArg, api.ErrShort, api.ErrForm, api.ErrMore, api.ErrSum, api.ErrSign, api.ErrVersion, api.ErrName, api.ErrTwice, api.ErrWeight, api.ErrNone, api.ErrOwner, api.ErrRange, api.ErrDelay, api.ErrOver, api.ErrCount} {
		if seen[e] < 1 {
			t.Errorf("%v: none of %d", seen, e)
		}
	}
}

// P28.1: lists of fragments' bytes: in each order, with one less, one twice, another set's among them.
func TestLinkOfLists(t *testing.T) {
	s := sample.Numbers(3)
	b := done(t, "compile", show.Print(sample.Model()))[0]
	some := append(done(t, "split 3", b), done(t, "split 2", b)...)
	some = append(some, done(t, "split 3", done(t, "compile", written(&s, s.Model(3, 4, 4, 4)))[0])[1], "", b)
	seen := map[api.Errno]int{}
	for n := range 4 {
		for _, places := range sample.Lists(n, 0, len(some)-1) {
			var in []string
			for _, at := range places {
				in = append(in, some[at])
			}
			out, f := held(t, "link", in...)
			if f.E == api.OK && !slices.Equal(out, []string{b}) {
				t.Fatalf("%v: %q; want %q", places, out, b)
			}
			seen[f.E]++
		}
	}
	// One of three in each order, one of two, and none of what else there is.
	if seen[api.OK] != 6+2 || seen[api.ErrCount] < 9 || seen[api.ErrTwice] < 9 || seen[api.ErrSet] < 9 || seen[api.ErrForm] < 9 || seen[api.ErrShort] < 9 {
		t.Errorf("%v", seen)
	}
}

// P28.1: which words are commands: of no inputs ErrCount tells them.
func TestWords(t *testing.T) {
	names := []string{"check", "format", "upgrade", "compile", "decompile", "run", "parts", "split", "link"}
	var all []string
	for _, name := range append(names, "", "Run", "runs", "ru", "cut", "checks", "chec", "check\x00") {
		for _, rest := range sample.Texts(4, " ", "0", "1", "9", "-", "x", "\n") {
			all = append(all, name+rest)
		}
		for _, rest := range []string{"\t1", "\r1", "\v1", "\f1", "\u00a01", " +1", " -0", " 1_0", " 0x1", " 1e3", " 1.", " 0b1", " \uff11", " \u0661", " 1\r", " \xff", " 1\x00", "1", "\x001", " " + strings.Repeat("0", 30), " " + strings.Repeat("1", 30), " 1" + strings.Repeat("0", 1000)} {
			all = append(all, name+rest, rest+name, " "+name+rest)
		}
		for _, n := range []int{2, 10, 99, 100, 101, 4095, 4096, 4097, 1<<20 - 1, 1 << 20, 1<<20 + 1, 2 << 20, 10 << 20, 1 << 31, 1 << 32, 1<<32 + 1, 1 << 62} {
			all = append(all, name+" "+strconv.Itoa(n), name+" 0"+strconv.Itoa(n), name+" -"+strconv.Itoa(n))
		}
		all = append(all, name+" 9223372036854775807", name+" 9223372036854775808", name+" 18446744073709551615", name+" 18446744073709551617", name+name, name+" "+name)
	}
	seen := map[api.Errno]int{}
	for _, cmd := range all {
		want := api.ErrWord
		if _, _, ok := word(cmd); ok {
			want = api.ErrCount
		}
		for _, in := range [][][]byte{nil, {}} {
			if out, f := tool.Do(cmd, in); out != nil || f != (api.Fault{E: want}) {
				t.Fatalf("%q: %q, %v; want %d", cmd, out, f, want)
			}
		}
		seen[want]++
	}
	if seen[api.ErrCount] < 100 || seen[api.ErrWord] < 10000 {
		t.Errorf("%v", seen)
	}
}

// P28.1: texts of the most bytes, and of one more.
func TestLongTexts(t *testing.T) {
	most := "model 3 {}" + strings.Repeat(" ", api.MaxText-len("model 3 {}"))
	for _, cmd := range []string{"check", "format", "upgrade", "compile"} {
		if out, f := do(cmd, most); f != (api.Fault{}) || cmd == "format" && out[0] != "model 3 {\n}\n" {
			t.Errorf("%s: %q, %v", cmd, out, f)
		}
		if out, f := do(cmd, most+" "); len(out) != 0 || f != (api.Fault{E: api.ErrLong}) {
			t.Errorf("%s: %q, %v", cmd, out, f)
		}
	}
}

// P28.1: as many records as may be asked for, a queue that gets too full, and each number of records up to some.
func TestLongRuns(t *testing.T) {
	of := done(t, "compile", clock)[0]
	all := done(t, "run 1048576", of)[0]
	last := "1572861 a 2\n1572862 b 1048579\nend 70\n"
	if strings.Count(all, "\n") != 1<<20+1 || !strings.HasSuffix(all, last) {
		t.Errorf("%d lines; the last ones %q", strings.Count(all, "\n"), all[len(all)-80:])
	}
	lines := strings.SplitAfterN(all, "\n", 201)
	for n := range 200 {
		want := strings.Join(lines[:n], "") + "end 70\n"
		if got := done(t, "run "+strconv.Itoa(n), of); got[0] != want {
			t.Fatalf("%d: %q; want %q", n, got, want)
		}
	}
	out, _ := held(t, "run 1048576", done(t, "compile", filling)[0])
	if !strings.HasSuffix(out[0], "\nend 71\n") {
		t.Errorf("%q", out[0][len(out[0])-80:])
	}
}

// P28.1: numbers of parts, from one to more than there are processes.
func TestParts(t *testing.T) {
	s := sample.Numbers(8)
	b := done(t, "compile", written(&s, s.Model(3, 30, 60, 9)))[0]
	for k := range 35 {
		out, _ := held(t, "parts "+strconv.Itoa(k), b)
		fs, _ := held(t, "split "+strconv.Itoa(k), b)
		if len(fs) != k || k > 0 && strings.Count(out[0], "\n") != 30 {
			t.Errorf("%d: %q", k, out)
		}
	}
	held(t, "parts 4096", b)
	held(t, "split 4096", b)
}

// P28.2: a right text of version 3 that is compiled, split, linked and decompiled is formatted, in whichever order its fragments stand; it runs as it would have.
func TestAround(t *testing.T) {
	models := append(right(3), sample.Model(), api.Model{Version: 3})
	for i, m := range right(3) {
		s := sample.Numbers(i)
		models = append(models, s.Gentle(m))
	}
	ends := map[string]int{}
	for i, m := range models {
		s := sample.Numbers(i)
		text := written(&s, m)
		formatted := done(t, "format", text)
		if formatted[0] != show.Print(canon.Canon(m)) {
			t.Fatalf("%q: %q", text, formatted)
		}
		b := done(t, "compile", text)
		would := runs(t, text, 40)
		ends[would[strings.LastIndex(would, "end"):]]++
		for _, k := range []int{1, 2, 3, 8, 13} {
			fs := done(t, "split "+strconv.Itoa(k), b...)
			for range 3 {
				back := done(t, "link", fs...)
				if !slices.Equal(back, b) || !slices.Equal(done(t, "decompile", back...), formatted) {
					t.Fatalf("%q in %d parts: %q; want %q", text, k, done(t, "decompile", back...), formatted)
				}
				if ran := done(t, "run 40", back...); ran[0] != would {
					t.Fatalf("%q in %d parts ran %q; would have %q", text, k, ran, would)
				}
				at := s.Next(len(fs))
				fs = slices.Concat(fs[at:], fs[:at])
				slices.Reverse(fs[:s.Next(len(fs)+1)])
			}
			out, f := tool.Script(fmt.Sprintf("compile\nsplit %d\nlink\ndecompile\n", k), lists([]string{text}))
			if f != (api.Fault{}) || !slices.Equal(texts(out), formatted) {
				t.Fatalf("%q in %d parts: %q, %v; want %q", text, k, out, f, formatted)
			}
		}
	}
	for _, end := range []string{"end 0\n", "end 30\n", "end 70\n"} {
		if ends[end] < 5 {
			t.Errorf("%v", ends)
		}
	}
}

// runs is the lines of a text's model, run as it stands.
func runs(t *testing.T, text string, most int) string {
	m, f := read.Parse(text)
	if f != (api.Fault{}) {
		t.Fatalf("%q: %v", text, f)
	}
	k, f := kernel.New(m)
	if f != (api.Fault{}) {
		t.Fatalf("%q: %v", text, f)
	}
	told, end := "", api.OK
	for r, e := range k.All(most) {
		if e == api.OK {
			told += fmt.Sprintln(r.At, r.Proc, r.Value)
		}
		end = e
	}
	return told + fmt.Sprintln("end", int(end))
}

// P4: bytes with something turned within 32 bits aren't read.
func TestTurnedBytes(t *testing.T) {
	b := []byte(done(t, "compile", "model 3 { proc a weight 1 { send l 2; } link l from a to a delay 3 weight 1; event a at 0 value 5; }")[0])
	fs := lists(done(t, "split 2", string(b)))
	for turned := range sample.Bursts(b) {
		if bytes.Equal(turned, b) {
			continue
		}
		for _, cmd := range []string{"decompile", "run 5", "parts 2", "split 2"} {
			if out, f := tool.Do(cmd, [][]byte{turned}); out != nil || f.E == api.OK {
				t.Fatalf("%s of % x, which was % x: %q, %v", cmd, turned, b, out, f)
			}
		}
	}
	for turned := range sample.Bursts(fs[1]) {
		if bytes.Equal(turned, fs[1]) {
			continue
		}
		if out, f := tool.Do("link", [][]byte{fs[0], turned}); out != nil || f.E == api.OK {
			t.Fatalf("% x, which was % x: %q, %v", turned, fs[1], out, f)
		}
	}
}

// P28.1: the most processes and links that there may be.
func TestGreat(t *testing.T) {
	s := sample.Numbers(5)
	text := show.Print(s.Model(3, 4096, 16384, 16384))
	formatted := done(t, "format", text)
	out, f := tool.Script("check", lists([]string{text}))
	if out != nil || f != (api.Fault{}) {
		t.Errorf("%v", f)
	}
	for _, k := range []string{"2", "4096"} {
		out, f = tool.Script("compile\nsplit "+k+"\nlink\ndecompile", lists([]string{text}))
		if f != (api.Fault{}) || !slices.Equal(texts(out), formatted) {
			t.Errorf("%s: %v", k, f)
		}
	}
}
