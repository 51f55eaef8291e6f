// Package copies makes models with memory of their own.
package copies

import (
	"slices"

	"sandtable/api"
)

// Model is a copy of a model, to the last list.
func Model(m api.Model) api.Model {
	m.Procs = slices.Clone(m.Procs)
	m.Links = slices.Clone(m.Links)
	m.Events = slices.Clone(m.Events)
	for i, p := range m.Procs {
		m.Procs[i].Vars = slices.Clone(p.Vars)
		m.Procs[i].Steps = slices.Clone(p.Steps)
	}
	return m
}
