package sample_test

import (
	"iter"
	"maps"
	"slices"
	"testing"

	"sandtable/sample"
)

// What is gone through rightly is told from what isn't: it is otherwise, shorter or longer, goes on behind a stop, doesn't begin again, or knows of what goes through it besides.
func TestGone(t *testing.T) {
	want := []int{5, 7, 5}
	once, taken := 0, 0
	for name, c := range map[string]struct {
		seq iter.Seq[int]
		ok  bool
	}{
		"right":   {slices.Values(want), true},
		"another": {slices.Values([]int{5, 7, 7}), false},
		"shorter": {slices.Values([]int{5, 7}), false},
		"longer":  {slices.Values([]int{5, 7, 5, 0}), false},
		"nothing": {slices.Values([]int{}), false},
		"not again": {func(yield func(int) bool) {
			if once++; once == 1 {
				slices.Values(want)(yield)
			}
		}, false},
		"on behind a stop": {func(yield func(int) bool) {
			for _, x := range want {
				yield(x)
			}
		}, false},
		"one place for all": {func(yield func(int) bool) {
			for taken = 0; taken < len(want); taken++ {
				if !yield(want[taken]) {
					return
				}
			}
		}, false},
	} {
		if got := sample.Gone(c.seq, want); got != c.ok {
			t.Errorf("%s: %v", name, got)
		}
	}
	if !sample.Gone(slices.Values([]int{}), nil) || sample.Gone(slices.Values(want), nil) {
		t.Error("of nothing")
	}
}

func TestPairs(t *testing.T) {
	if !sample.Gone(sample.Pairs(slices.All([]string{"a", "b"})), []sample.Pair[int, string]{{0, "a"}, {1, "b"}}) {
		t.Error("a, b")
	}
	if !sample.Gone(sample.Pairs(maps.All(map[int]int{})), nil) {
		t.Error("of nothing")
	}
}
