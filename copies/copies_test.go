package copies_test

import (
	"reflect"
	"testing"

	"sandtable/api"
	"sandtable/canon"
	"sandtable/copies"
	"sandtable/sample"
)

// A copy is as the model is, list by list, whichever model it is of.
func TestModel(t *testing.T) {
	for _, m := range append(sample.Turned(sample.Model()), sample.Model(), api.Model{}) {
		if c := copies.Model(m); !canon.Same(c, m) {
			t.Fatalf("%#v; want %#v", c, m)
		}
	}
}

// A copy shares no list with the model, nor the room behind it, and no two of its own lists share any, even if those of the model do.
func TestMemory(t *testing.T) {
	m := sample.Roomy(sample.Model())
	was := sample.Behind(m)
	c := copies.Model(m)
	sample.Fill(c, 1)
	if !sample.Filled(c, 1) {
		t.Errorf("%#v: lists share memory", c)
	}
	sample.Spoil(c)
	if now := sample.Behind(m); !reflect.DeepEqual(now, was) {
		t.Errorf("%#v; was %#v", now, was)
	}
	c = copies.Model(m)
	sample.Spoil(m)
	if !canon.Same(c, sample.Model()) {
		t.Errorf("%#v; want %#v", c, sample.Model())
	}
	m = sample.Model()
	for i := range m.Procs {
		m.Procs[i].Vars, m.Procs[i].Steps = m.Procs[0].Vars, m.Procs[0].Steps
	}
	if c = copies.Model(m); !canon.Same(c, m) {
		t.Errorf("%#v; want %#v", c, m)
	}
	sample.Fill(c, 1)
	if !sample.Filled(c, 1) {
		t.Errorf("%#v: lists share memory, as the model's do", c)
	}
}
