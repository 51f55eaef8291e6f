package sample_test

import (
	"reflect"
	"testing"

	"sandtable/api"
	"sandtable/canon"
	"sandtable/sample"
)

// What stands behind a model's lists is seen, else what turns it wouldn't be.
func TestBehind(t *testing.T) {
	m := sample.Model()
	roomy := sample.Roomy(m)
	if !canon.Same(roomy, m) || !reflect.DeepEqual(m, sample.Model()) {
		t.Errorf("%#v", roomy)
	}
	all, was := sample.Behind(roomy), sample.Behind(roomy)
	if len(all.Procs) <= 3 || len(all.Links) <= 3 || len(all.Events) <= 4 || all.Procs[3].Name != "behind" || len(all.Procs[1].Vars) <= 2 || len(all.Procs[1].Steps) <= 3 {
		t.Fatalf("%#v", all)
	}
	roomy.Procs[1].Vars[:3][2].Init = 9
	if !reflect.DeepEqual(all, was) || reflect.DeepEqual(sample.Behind(roomy), was) {
		t.Error("what stands behind isn't seen")
	}
}

// Each list that is written over is another one then; of two that share memory one isn't as it was filled.
func TestOver(t *testing.T) {
	for i, turn := range []func(m api.Model){sample.Spoil, func(m api.Model) { sample.Fill(m, 5) }} {
		m := sample.Roomy(sample.Model())
		was := sample.Behind(m)
		turn(m)
		now := sample.Behind(m)
		for k := range was.Links {
			if now.Links[k] == was.Links[k] {
				t.Errorf("case %d: %#v", i, now.Links)
			}
		}
		for k := range was.Events {
			if now.Events[k] == was.Events[k] {
				t.Errorf("case %d: %#v", i, now.Events)
			}
		}
		if i == 0 && now.Procs[0].Name != "over" || i > 0 && (now.Procs[0].Vars[0] == was.Procs[0].Vars[0] || now.Procs[0].Steps[0] == was.Procs[0].Steps[0]) {
			t.Errorf("case %d: %#v", i, now.Procs)
		}
	}
	m := sample.Roomy(sample.Model())
	sample.Fill(m, 5)
	if !sample.Filled(m, 5) || sample.Filled(m, 6) {
		t.Errorf("%#v", m)
	}
	m.Procs[0].Vars = m.Procs[1].Vars[1:]
	sample.Fill(m, 5)
	if sample.Filled(m, 5) {
		t.Errorf("shared: %#v", m)
	}
}
