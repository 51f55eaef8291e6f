package sample

import (
	"bytes"
	"iter"
	"slices"
)

// Bytes is n bytes of all kinds.
func (s *Numbers) Bytes(n int) []byte {
	b := make([]byte, n)
	for i := range b {
		b[i] = byte(s.Next(256))
	}
	return b
}

// Texts is all texts of at most so many pieces, the shorter ones first.
func Texts(most int, pieces ...string) []string {
	all := []string{""}
	for last := all; most > 0; most-- {
		var longer []string
		for _, text := range last {
			for _, piece := range pieces {
				longer = append(longer, text+piece)
			}
		}
		all = append(all, longer...)
		last = longer
	}
	return all
}

// Burst is b with the bits of a pattern turned, from a bit on; a byte's bits follow one another from its lowest one on, as layer 4's sum takes them.
func Burst(b []byte, from int, pattern uint32) []byte {
	b = bytes.Clone(b)
	for i := range 32 {
		if at := from + i; pattern>>i&1 == 1 && at < 8*len(b) {
			b[at/8] ^= 1 << (at % 8)
		}
	}
	return b
}

// Bursts is b with something turned within 32 bits that follow one another: at each place each bit alone, all of them, and many choices of them.
func Bursts(b []byte) iter.Seq[[]byte] {
	patterns := []uint32{1, 0xFFFFFFFF, 0x80000001, 0xFFFF0001, 0xEDB88321, 0xDEADBEEF, 0xAAAAAAAB, 0x82608EDB}
	s := Numbers(7)
	for range 60 {
		patterns = append(patterns, uint32(s.Next(1<<16))<<16|uint32(s.Next(1<<16))|1)
	}
	return func(yield func([]byte) bool) {
		for from := range 8 * len(b) {
			for _, pattern := range patterns {
				if !yield(Burst(b, from, pattern)) {
					return
				}
			}
		}
	}
}

// Edits is bytes that are one edit away from b: a byte is another one, or left out, or one more stands ahead of it or behind all.
func Edits(b []byte) iter.Seq[[]byte] {
	return func(yield func([]byte) bool) {
		for i := range len(b) + 1 {
			for c := range 256 {
				if !yield(slices.Insert(bytes.Clone(b), i, byte(c))) {
					return
				}
			}
			if i == len(b) {
				return
			}
			for turn := 1; turn < 256; turn++ {
				other := bytes.Clone(b)
				other[i] ^= byte(turn)
				if !yield(other) {
					return
				}
			}
			if !yield(slices.Delete(bytes.Clone(b), i, i+1)) {
				return
			}
		}
	}
}
