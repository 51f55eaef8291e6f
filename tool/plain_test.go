package tool_test

import (
	"fmt"
	"math/big"
	"regexp"

	"sandtable/api"
	"sandtable/bundle"
	"sandtable/canon"
	"sandtable/kernel"
	"sandtable/link"
	"sandtable/model"
	"sandtable/parts"
	"sandtable/read"
	"sandtable/show"
	"sandtable/split"
	"sandtable/upgrade"
)

var (
	alone  = regexp.MustCompile(`\A(check|format|upgrade|compile|decompile|link)\z`)
	behind = regexp.MustCompile(`\A(run|parts|split) (0|[1-9][0-9]*)\z`)
)

// word is a command's name, the number behind it, and true; false, if there is no such command.
func word(cmd string) (string, int, bool) {
	if alone.MatchString(cmd) {
		return cmd, 0, true
	}
	pieces := behind.FindStringSubmatch(cmd)
	if pieces == nil {
		return "", 0, false
	}
	n, _ := new(big.Int).SetString(pieces[2], 10)
	if n.Cmp(big.NewInt(1048576)) > 0 {
		return "", 0, false
	}
	return pieces[1], int(n.Int64()), true
}

// plain is what Do must answer, told by the layers below.
func plain(cmd string, in []string) ([]string, api.Fault) {
	name, n, ok := word(cmd)
	switch {
	case !ok:
		return nil, api.Fault{E: 80}
	case name == "link" && len(in) == 0, name != "link" && len(in) != 1:
		return nil, api.Fault{E: 61}
	case name == "link":
		return plainLink(in)
	case name == "check", name == "format", name == "upgrade", name == "compile":
		return plainText(name, in[0])
	}
	m, e := bundle.Decode([]byte(in[0]))
	switch {
	case e != 0:
		return nil, api.Fault{E: e}
	case name == "decompile":
		return []string{show.Print(m)}, api.Fault{}
	case name == "run":
		return []string{plainRun(m, n)}, api.Fault{}
	case n < 1 || n > 4096:
		return nil, api.Fault{E: 1}
	}
	g, _ := canon.Graph(m)
	part, _ := parts.Split(g, n)
	if name == "parts" {
		text := ""
		for i, p := range m.Procs {
			text += fmt.Sprintf("%s %d\n", p.Name, part[i])
		}
		return []string{text}, api.Fault{}
	}
	var all []string
	fs, _ := split.Split(m, part, n)
	for _, f := range fs {
		b, _ := split.Write(f)
		all = append(all, string(b))
	}
	return all, api.Fault{}
}

// plainText is what is done with a text: its model, if it is right, one up, and one up again.
func plainText(name, text string) ([]string, api.Fault) {
	m, f := read.Parse(text)
	if f.E == 0 {
		f = model.Check(m)
	}
	if f.E != 0 || name == "check" {
		return nil, f
	}
	for name != "format" && m.Version < 3 {
		if m, f = upgrade.Up(m); f.E != 0 {
			return nil, f
		}
	}
	m = canon.Canon(m)
	if name == "compile" {
		b, _ := bundle.Encode(m)
		return []string{string(b)}, api.Fault{}
	}
	return []string{show.Print(m)}, api.Fault{}
}

// plainRun is the lines of a right model's first steps.
func plainRun(m api.Model, most int) string {
	k, _ := kernel.New(m)
	text := ""
	for range most {
		r, e := k.Step()
		switch {
		case e == 4:
			return text + "end 0\n"
		case e != 0:
			return text + fmt.Sprintf("end %d\n", e)
		}
		text += fmt.Sprintf("%d %s %d\n", r.At, r.Proc, r.Value)
	}
	if k.Len() > 0 {
		return text + "end 70\n"
	}
	return text + "end 0\n"
}

func plainLink(in []string) ([]string, api.Fault) {
	var fs []split.Fragment
	for _, b := range in {
		f, e := split.Read([]byte(b))
		if e != 0 {
			return nil, api.Fault{E: e}
		}
		fs = append(fs, f)
	}
	m, e := link.Link(fs)
	if e != 0 {
		return nil, api.Fault{E: e}
	}
	b, _ := bundle.Encode(m)
	return []string{string(b)}, api.Fault{}
}
