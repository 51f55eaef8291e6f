package tool

import (
	"strconv"
	"strings"

	"sandtable/api"
	"sandtable/bundle"
	"sandtable/canon"
	"sandtable/kernel"
	"sandtable/link"
	"sandtable/parts"
	"sandtable/show"
	"sandtable/split"
)

// decompileBundle is the text of a bundle's model.
func decompileBundle(in [][]byte, _ int) ([][]byte, api.Fault) {
	m, e := bundle.Decode(in[0])
	if e != api.OK {
		return nil, api.Fault{E: e}
	}
	return one([]byte(show.Print(m)))
}

// runBundle is a line for each of at most so many records, and one that tells why there are no more.
func runBundle(in [][]byte, most int) ([][]byte, api.Fault) {
	m, e := bundle.Decode(in[0])
	if e != api.OK {
		return nil, api.Fault{E: e}
	}
	k, f := kernel.New(m)
	if f.E != api.OK {
		return nil, f
	}
	var text strings.Builder
	end := api.OK
	for r, e := range k.All(most) {
		if e != api.OK {
			end = e
			break
		}
		tell(&text, strconv.FormatInt(r.At, 10), r.Proc, strconv.FormatInt(r.Value, 10))
	}
	tell(&text, "end", strconv.Itoa(int(end)))
	return one([]byte(text.String()))
}

// tellParts is a line for each process of a bundle's model, with its part of k.
func tellParts(in [][]byte, k int) ([][]byte, api.Fault) {
	m, part, e := parted(in[0], k)
	if e != api.OK {
		return nil, api.Fault{E: e}
	}
	var text strings.Builder
	for i, p := range m.Procs {
		tell(&text, p.Name, strconv.Itoa(part[i]))
	}
	return one([]byte(text.String()))
}

// splitBundle is the bytes of the k fragments of a bundle's model.
func splitBundle(in [][]byte, k int) ([][]byte, api.Fault) {
	m, part, e := parted(in[0], k)
	if e != api.OK {
		return nil, api.Fault{E: e}
	}
	fragments, f := split.Split(m, part, k)
	if f.E != api.OK {
		return nil, f
	}
	var all [][]byte
	for _, own := range fragments {
		b, e := split.Write(own)
		if e != api.OK {
			return nil, api.Fault{E: e}
		}
		all = append(all, b)
	}
	return all, api.Fault{}
}

// linkFragments is the bundle of the model whose fragments' bytes these are.
func linkFragments(in [][]byte, _ int) ([][]byte, api.Fault) {
	m, e := link.Bytes(in)
	if e != api.OK {
		return nil, api.Fault{E: e}
	}
	return encoded(m)
}

// parted is a bundle's model, laid down, and the part of each of its processes, of k; nothing with an error.
func parted(b []byte, k int) (api.Model, []int, api.Errno) {
	m, e := bundle.Decode(b)
	if e != api.OK {
		return api.Model{}, nil, e
	}
	g, e := canon.Graph(m)
	if e != api.OK {
		return api.Model{}, nil, e
	}
	part, e := parts.Split(g, k)
	if e != api.OK {
		return api.Model{}, nil, e
	}
	return m, part, api.OK
}

// tell writes a line of some words, with blanks between.
func tell(text *strings.Builder, words ...string) {
	text.WriteString(strings.Join(words, " "))
	text.WriteByte('\n')
}
