package tool

import (
	"sandtable/api"
	"sandtable/bundle"
	"sandtable/canon"
	"sandtable/model"
	"sandtable/read"
	"sandtable/show"
	"sandtable/upgrade"
)

// checkText answers nothing, with a fault or without one.
func checkText(in [][]byte, _ int) ([][]byte, api.Fault) {
	m, f := read.Parse(string(in[0]))
	if f.E != api.OK {
		return nil, f
	}
	return nil, model.Check(m)
}

// formatText is the text of what a text's model is laid down.
func formatText(in [][]byte, _ int) ([][]byte, api.Fault) {
	text, f := show.Format(string(in[0]))
	if f.E != api.OK {
		return nil, f
	}
	return one([]byte(text))
}

// upgradeText is the text of the latest version of a text's model.
func upgradeText(in [][]byte, _ int) ([][]byte, api.Fault) {
	m, f := latest(in[0])
	if f.E != api.OK {
		return nil, f
	}
	return one([]byte(show.Print(m)))
}

// compileText is the bundle of the latest version of a text's model.
func compileText(in [][]byte, _ int) ([][]byte, api.Fault) {
	m, f := latest(in[0])
	if f.E != api.OK {
		return nil, f
	}
	return encoded(m)
}

// latest is the latest version of a text's model, laid down; nothing with a fault.
func latest(text []byte) (api.Model, api.Fault) {
	m, f := read.Parse(string(text))
	if f.E != api.OK {
		return api.Model{}, f
	}
	m, f = upgrade.Latest(m)
	if f.E != api.OK {
		return api.Model{}, f
	}
	return canon.Canon(m), api.Fault{}
}

// encoded is a model's bundle; nothing with a fault.
func encoded(m api.Model) ([][]byte, api.Fault) {
	b, f := bundle.Encode(m)
	if f.E != api.OK {
		return nil, f
	}
	return one(b)
}

// one is an answer of one thing.
func one(b []byte) ([][]byte, api.Fault) {
	return [][]byte{b}, api.Fault{}
}
