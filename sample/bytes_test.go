package sample_test

import (
	"bytes"
	"math/bits"
	"slices"
	"testing"

	"sandtable/sample"
)

func TestBytes(t *testing.T) {
	s := sample.Numbers(1)
	seen := [256]int{}
	for n := range 200 {
		b := s.Bytes(n)
		if len(b) != n {
			t.Fatalf("%d of %d", len(b), n)
		}
		for _, c := range b {
			seen[c]++
		}
	}
	if slices.Contains(seen[:], 0) {
		t.Errorf("%v", seen)
	}
}

func TestShortTexts(t *testing.T) {
	if got := sample.Texts(2, "a", "bc"); !slices.Equal(got, []string{"", "a", "bc", "aa", "abc", "bca", "bcbc"}) {
		t.Errorf("%q", got)
	}
	if got := sample.Texts(0, "a"); !slices.Equal(got, []string{""}) {
		t.Errorf("%q", got)
	}
	if got := sample.Texts(3); !slices.Equal(got, []string{""}) {
		t.Errorf("%q", got)
	}
}

// turns is the bits that are unlike in two lists of bytes that are as long.
func turns(a, b []byte) []int {
	var places []int
	for i := range a {
		for left := a[i] ^ b[i]; left != 0; left &= left - 1 {
			places = append(places, 8*i+bits.TrailingZeros8(left))
		}
	}
	return places
}

// Of bursts each bit begins some, which reach as far as they may, some no further than itself.
func TestBursts(t *testing.T) {
	b := []byte("some bytes, no more")
	was := bytes.Clone(b)
	widths := make([][33]int, 8*len(b))
	for other := range sample.Bursts(b) {
		places := turns(b, other)
		if len(other) != len(b) || len(places) == 0 {
			t.Fatalf("%q: %v", other, places)
		}
		widths[places[0]][places[len(places)-1]-places[0]+1]++
	}
	for from, w := range widths {
		if w[0] > 0 || w[1] == 0 || from+32 <= 8*len(b) && w[32] < 20 {
			t.Errorf("from %d on: %v", from, w)
		}
	}
	if got := sample.Burst([]byte{0, 0}, 7, 0x80000085); !slices.Equal(got, []byte{0x80, 0x42}) {
		t.Errorf("%x", got)
	}
	if !slices.Equal(b, was) {
		t.Errorf("%q", b)
	}
}

// Edits are all that are one byte away, and none is as it was.
func TestEdits(t *testing.T) {
	b := []byte("ab")
	seen := map[string]int{}
	for other := range sample.Edits(b) {
		seen[string(other)]++
	}
	if len(seen) != 2*255+2+3*256-2 || seen["ab"] > 0 || string(b) != "ab" {
		t.Errorf("%d", len(seen))
	}
	for _, s := range []string{"a", "b", "xab", "axb", "abx", "xb", "ax", "aab"} {
		if seen[s] == 0 {
			t.Errorf("no %q", s)
		}
	}
	n := 0
	for range sample.Edits(nil) {
		n++
	}
	if n != 256 {
		t.Errorf("%d of nothing", n)
	}
}
