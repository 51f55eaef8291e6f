package tool_test

import (
	"bytes"
	"runtime"
	"slices"
	"strings"
	"testing"

	"sandtable/api"
	"sandtable/sample"
	"sandtable/tool"
)

// plainLines are the lines of a text that aren't empty, byte by byte.
func plainLines(text string) []sample.Pair[int, string] {
	var all []sample.Pair[int, string]
	number, line := 1, ""
	for i := range len(text) + 1 {
		if i < len(text) && text[i] != 10 {
			line += text[i : i+1]
			continue
		}
		if line != "" {
			all = append(all, sample.Pair[int, string]{A: number, B: line})
		}
		number, line = number+1, ""
	}
	return all
}

// plainScript is what Script must answer, by what Do must.
func plainScript(text string, in []string) ([]string, api.Fault) {
	for _, line := range plainLines(text) {
		out, f := plain(line.B, in)
		if f.E != 0 {
			return nil, api.Fault{E: f.E, At: line.A}
		}
		in = out
	}
	return in, api.Fault{}
}

// heldScript holds what Script answers.
func heldScript(t *testing.T, text string, in ...string) api.Errno {
	t.Helper()
	out, f := tool.Script(text, lists(in))
	want, fault := plainScript(text, in)
	if !slices.Equal(texts(out), want) || f != fault {
		t.Fatalf("%q of %q: %q, %v; want %q, %v", text, in, out, f, want, fault)
	}
	return f.E
}

// P28.1: lines, gone through again, within themselves too, and stopped at any place.
func TestLines(t *testing.T) {
	all := append(sample.Texts(6, "a", "\n", "\r"), sample.Texts(4, "split 2", " ", "\n\n", "\x00", "\xff", "\u00e9", "\u2028", "\v")...)
	for _, text := range append(all, strings.Repeat("\n", 300)+"a", strings.Repeat("a", 300)) {
		if want := plainLines(text); !sample.Gone(sample.Pairs(tool.Lines(text)), want) {
			t.Fatalf("%q: not %v", text, want)
		}
	}
}

// P28.1: no line is made behind the last one that is asked for.
func TestNoMoreLinesAreMade(t *testing.T) {
	text := strings.Repeat("a\n", 1<<20)
	var ahead, behind runtime.MemStats
	runtime.ReadMemStats(&ahead)
	for number, line := range tool.Lines(text) {
		if number != 1 || line != "a" {
			t.Errorf("%d, %q", number, line)
		}
		break
	}
	runtime.ReadMemStats(&behind)
	if made := behind.TotalAlloc - ahead.TotalAlloc; made > 1<<16 {
		t.Errorf("%d bytes are made for one line", made)
	}
}

// P28.1: scripts, written out.
func TestScriptWrittenOut(t *testing.T) {
	of := done(t, "compile", clock)[0]
	for _, c := range []struct {
		text     string
		in, want []string
		f        api.Fault
	}{
		{"", nil, nil, api.Fault{}},
		{"", []string{"x", "", "y"}, []string{"x", "", "y"}, api.Fault{}},
		{"\n\n\n", []string{"x"}, []string{"x"}, api.Fault{}},
		{"check", []string{clock}, nil, api.Fault{}},
		{"check\n", []string{clock}, nil, api.Fault{}},
		{"format", []string{clock}, []string{clock}, api.Fault{}},
		{"\n\ncompile\n\n\ndecompile\n\n", []string{clock}, []string{clock}, api.Fault{}},
		{"compile\nrun 1", []string{clock}, []string{"0 a 5\nend 70\n"}, api.Fault{}},
		{"split 7\nlink\nsplit 1\nlink", []string{of}, []string{of}, api.Fault{}},
		{"sing", nil, nil, api.Fault{E: api.ErrWord, At: 1}},
		{"sing", []string{clock}, nil, api.Fault{E: api.ErrWord, At: 1}},
		{"check", nil, nil, api.Fault{E: api.ErrCount, At: 1}},
		{"\n\n\nlink", nil, nil, api.Fault{E: api.ErrCount, At: 4}},
		{"check\ncheck", []string{clock}, nil, api.Fault{E: api.ErrCount, At: 2}},
		{"check\n\n\nlink\n", []string{clock}, nil, api.Fault{E: api.ErrCount, At: 4}},
		{"compile\n\nsplit 2\ndecompile", []string{clock}, nil, api.Fault{E: api.ErrCount, At: 4}},
		{"compile\nsplit 1\ndecompile", []string{clock}, nil, api.Fault{E: api.ErrForm, At: 3}},
		{"compile\nsplit 0", []string{clock}, nil, api.Fault{E: api.ErrArg, At: 2}},
		// Where the fault is in the input isn't told, but where in the script.
		{"\nformat", []string{"model 3 { ?"}, nil, api.Fault{E: api.ErrForm, At: 2}},
		{"\nupgrade\ncompile", []string{"model 1 { proc a {} link l from a to a delay 1099511628; }"}, nil, api.Fault{E: api.ErrOver, At: 2}},
		// The first fault is told, whatever stands behind.
		{"format\ncompile\ncompile\nsing\nsing", []string{clock}, nil, api.Fault{E: api.ErrForm, At: 3}},
		{"format\nsing\ncompile\ncompile", []string{clock}, nil, api.Fault{E: api.ErrWord, At: 2}},
		// A line is a command as it stands.
		{"format\r\nformat", []string{clock}, nil, api.Fault{E: api.ErrWord, At: 1}},
		{"format\n \nformat", []string{clock}, nil, api.Fault{E: api.ErrWord, At: 2}},
		{"format\n\r\n", []string{clock}, nil, api.Fault{E: api.ErrWord, At: 2}},
		{"format\n# format", []string{clock}, nil, api.Fault{E: api.ErrWord, At: 2}},
		{"format format", []string{clock}, nil, api.Fault{E: api.ErrWord, At: 1}},
	} {
		out, f := tool.Script(c.text, lists(c.in))
		if !slices.Equal(texts(out), c.want) || f != c.f || f.E != api.OK && out != nil {
			t.Errorf("%q of %q: %q, %v; want %q, %v", c.text, c.in, out, f, c.want, c.f)
		}
	}
}

// P28.1: scripts of many commands, with empty lines here and there.
func TestScripts(t *testing.T) {
	cmds := []string{"check", "format", "format", "upgrade", "upgrade", "compile", "compile", "decompile", "decompile", "run 3", "parts 2", "split 1", "split 2", "split 3", "link", "link", "sing"}
	ends := []string{"\n", "\n", "\n", "\n\n", "\n\n\n", "\r\n"}
	all := inputs(t)
	seen := map[api.Errno]int{}
	for i := range 20000 {
		s := sample.Numbers(i)
		text := []string{"", "\n"}[s.Next(2)]
		for range s.Next(6) {
			text += cmds[s.Next(len(cmds))] + ends[s.Next(len(ends))]
		}
		if s.Next(2) == 0 {
			text = strings.TrimRight(text, "\n")
		}
		seen[heldScript(t, text, all[s.Next(len(all))])]++
	}
	if seen[api.OK] < 1000 || seen[api.ErrWord] < 1000 || seen[api.ErrCount] < 50 || seen[api.ErrForm] < 1000 {
		t.Errorf("%v", seen)
	}
}

// roomy is a list of texts, as bytes, with room behind each, and behind all, in which something stands.
func roomy(in []string) [][]byte {
	list := lists(append(slices.Clone(in), "behind"))
	for i, b := range list {
		list[i] = append(b, "behind"...)[:len(b)]
	}
	return list[:len(in)]
}

// whole is all that stands in a list, and in the room behind its things, and behind all, as texts.
func whole(list [][]byte) []string {
	var all []string
	for _, b := range list[:cap(list)] {
		all = append(all, string(b[:cap(b)]))
	}
	return all
}

// fill writes a number of its own, from first on, all over each thing of a list, and the room behind it.
func fill(list [][]byte, first int) {
	for i, b := range list[:cap(list)] {
		for at := range b[:cap(b)] {
			b[:cap(b)][at] = byte(first + i)
		}
	}
}

// P2: what is handed in, and the memory behind it, is neither turned nor kept; what is answered is new memory, spare room too, and no two lists of it share any.
func TestMemory(t *testing.T) {
	of := done(t, "compile", clock)[0]
	apart := done(t, "split 3", of)
	for _, c := range []struct {
		cmd string
		in  []string
	}{{"check", []string{clock}}, {"format", []string{clock}}, {"format", []string{"?"}}, {"upgrade", []string{clock}}, {"compile", []string{clock}}, {"decompile", []string{of}}, {"decompile", []string{of + "x"}}, {"run 5", []string{of}}, {"parts 2", []string{of}}, {"split 1", []string{of}}, {"split 3", []string{of}}, {"split 9", []string{of}}, {"link", apart}, {"link", apart[1:]}, {"sing", apart}, {"", apart}, {"\n", []string{"x", "", clock}}} {
		call := tool.Do
		want, _ := plain(c.cmd, c.in)
		if strings.Trim(c.cmd, "\n") == "" {
			call, want = tool.Script, c.in
		}
		in := roomy(c.in)
		was := whole(in)
		out, _ := call(c.cmd, in)
		if !slices.Equal(whole(in), was) {
			t.Fatalf("%q of %q: turned into %q", c.cmd, c.in, in)
		}
		fill(in, 200)
		if !slices.Equal(texts(out), want) {
			t.Fatalf("%q of %q: %q behind the call; want %q", c.cmd, c.in, out, want)
		}
		was = whole(in)
		fill(out, 1)
		if !slices.Equal(whole(in), was) {
			t.Fatalf("%q of %q: what is answered is the inputs' memory", c.cmd, c.in)
		}
		for i, b := range out[:cap(out)] {
			if !bytes.Equal(b[:cap(b)], bytes.Repeat([]byte{byte(1 + i)}, cap(b))) {
				t.Fatalf("%q of %q: %q shares memory", c.cmd, c.in, b[:cap(b)])
			}
		}
	}
}

// P2: the same thing twice among the inputs is two things of what is answered.
func TestTwinInputs(t *testing.T) {
	twin := []byte("twin")
	out, f := tool.Script("\n", [][]byte{twin, twin, twin[:2], nil})
	fill(out, 1)
	if f != (api.Fault{}) || !slices.Equal(texts(out), []string{"\x01\x01\x01\x01", "\x02\x02\x02\x02", "\x03\x03", ""}) || string(twin) != "twin" {
		t.Errorf("%q, %v; %q", out, f, twin)
	}
}
