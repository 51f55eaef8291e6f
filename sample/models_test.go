package sample_test

import (
	"slices"
	"testing"

	"sandtable/api"
	"sandtable/canon"
	"sandtable/ident"
	"sandtable/model"
	"sandtable/sample"
)

// Models that tests are tried on are right, or wrong, as it is said, and of all kinds: else what holds of them may hold of nothing.
func TestModels(t *testing.T) {
	if m := sample.Model(); model.Check(m) != (api.Fault{}) || canon.Is(m) {
		t.Errorf("%#v", m)
	}
	steps := map[[2]int]int{}
	for s := range sample.Numbers(200) {
		version, procs, links, events := 1+s.Next(3), s.Next(9), s.Next(9), s.Next(9)
		m := s.Model(version, procs, links, events)
		if f := model.Check(m); f != (api.Fault{}) {
			t.Fatalf("%#v: %#v", m, f)
		}
		if procs == 0 {
			links, events = 0, 0
		}
		if m.Version != version || len(m.Procs) != procs || len(m.Links) != links || len(m.Events) != events {
			t.Fatalf("%#v: not as many as asked for", m)
		}
		if mixed := s.Mix(m); !canon.Same(canon.Canon(mixed), canon.Canon(m)) {
			t.Fatalf("%#v: %#v", m, mixed)
		}
		if gentle := s.Gentle(m); model.Check(gentle) != (api.Fault{}) || len(gentle.Procs) != procs {
			t.Fatalf("%#v: %#v", m, gentle)
		}
		for _, p := range m.Procs {
			for _, step := range p.Steps {
				steps[[2]int{step.Kind, step.Arg.Kind}]++
			}
		}
	}
	if len(steps) != 12 {
		t.Errorf("%v", steps)
	}
}

func TestNames(t *testing.T) {
	for n := range 300 {
		s := sample.Numbers(n)
		names := s.Names(n)
		for _, name := range names {
			if ident.Check(name) != api.OK {
				t.Fatalf("%q", name)
			}
		}
		if got := slices.Collect(ident.Distinct(names)); len(names) != n || len(got) != n || n > 9 && ident.Sorted(names) {
			t.Fatalf("%q", names)
		}
	}
}

func TestTurned(t *testing.T) {
	m := sample.Model()
	right, wrong := 0, 0
	for _, once := range sample.Turned(m) {
		if canon.Same(once, m) {
			t.Fatalf("%#v: as it was", once)
		}
		if model.Check(once) == (api.Fault{}) {
			right++
		} else {
			wrong++
		}
	}
	if right < 50 || wrong < 200 || !canon.Same(m, sample.Model()) {
		t.Errorf("%d, %d", right, wrong)
	}
}
