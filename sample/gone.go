package sample

import (
	"iter"
	"slices"
)

// Gone tells whether what is gone through is what it must be: as often as it is gone through, within itself too, and stopped at any place, behind which nothing is handed out.
func Gone[T comparable](seq iter.Seq[T], want []T) bool {
	for stop := 1; stop <= len(want)+1; stop++ {
		var got []T
		seq(func(x T) bool {
			got = append(got, x)
			return len(got) < stop
		})
		if !slices.Equal(got, want[:min(stop, len(want))]) {
			return false
		}
	}
	rounds := 0
	for x := range seq {
		for y := range seq {
			if rounds >= len(want)*len(want) || x != want[rounds/len(want)] || y != want[rounds%len(want)] {
				return false
			}
			rounds++
		}
	}
	return rounds == len(want)*len(want)
}

// Pair is two things that are gone through together.
type Pair[A, B any] struct {
	A A
	B B
}

// Pairs is what is gone through two by two, as one thing each.
func Pairs[A, B any](seq iter.Seq2[A, B]) iter.Seq[Pair[A, B]] {
	return func(yield func(Pair[A, B]) bool) {
		seq(func(a A, b B) bool { return yield(Pair[A, B]{a, b}) })
	}
}
