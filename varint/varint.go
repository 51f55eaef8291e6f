// Package varint is layer 2: numbers in as few bytes as they need, seven bits a byte, the lowest ones first.
package varint

import (
	"bytes"
	"iter"
	"math/bits"

	"sandtable/api"
)

const (
	more     = 0x80 // the highest bit: another byte follows
	longest  = 10   // as many bytes as 64 bits need
	lastMost = 1    // what is left of 64 bits for the tenth byte
)

// Len is how many bytes a number has.
func Len(n uint64) int {
	return (bits.Len64(n|1) + 6) / 7 // 0 has a byte too
}

// Put is a number's bytes, canonical.
func Put(n uint64) []byte {
	b := make([]byte, 0, Len(n))
	for n >= more {
		b = append(b, byte(n)|more)
		n >>= 7
	}
	return append(b, byte(n))
}

// Get is the number at the beginning of bytes, and how many it has.
func Get(b []byte) (n uint64, size int, e api.Errno) {
	for i, c := range b[:min(len(b), longest)] {
		if i == longest-1 && c > lastMost {
			return 0, 0, api.ErrRange
		}
		n |= uint64(c&^more) << (7 * i)
		if c < more {
			if i > 0 && c == 0 {
				return 0, 0, api.ErrForm
			}
			return n, i + 1, api.OK
		}
	}
	return 0, 0, api.ErrShort
}

// Fold is a folded number: from 0 on twice as much, below 0 twice the distance, less one.
func Fold(n int64) uint64 {
	if n < 0 {
		return uint64(^n)<<1 | 1 // the distance of n, less one, is ^n, which can't go round
	}
	return uint64(n) << 1
}

// Unfold is what was folded.
func Unfold(n uint64) int64 {
	half := int64(n >> 1)
	if n&1 == 1 {
		return ^half
	}
	return half
}

// All is the numbers that stand in bytes, with their places, until one has an error, or nothing is left.
func All(b []byte) iter.Seq2[int, uint64] {
	// The caller may write b over before the numbers are gone through, or between two of them.
	kept := bytes.Clone(b)
	return func(yield func(int, uint64) bool) {
		for at := 0; at < len(kept); {
			n, size, e := Get(kept[at:])
			if e != api.OK || !yield(at, n) {
				return
			}
			at += size
		}
	}
}
