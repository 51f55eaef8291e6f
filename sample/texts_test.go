package sample_test

import (
	"slices"
	"strings"
	"testing"

	"sandtable/api"
	"sandtable/canon"
	"sandtable/read"
	"sandtable/sample"
	"sandtable/token"
)

// Texts that tests are tried on are their models', and of all kinds.
func TestTexts(t *testing.T) {
	words := map[string]int{}
	apart, among := 0, 0
	for s := range sample.Numbers(200) {
		m := s.Model(1+s.Next(3), s.Next(9), s.Next(9), s.Next(9))
		tokens := s.Tokens(m)
		text, places := s.Spread(tokens)
		if got, f := read.Parse(text); f != (api.Fault{}) || !canon.Same(got, m) {
			t.Fatalf("%q: %#v, %#v; want %#v", text, got, f, m)
		}
		list, _ := token.List(text)
		if len(list) != len(places) || len(places) != len(tokens)+1 {
			t.Fatalf("%q: %d tokens at %d places", text, len(tokens), len(places))
		}
		for i, tok := range list {
			if tok.At != places[i] || i < len(tokens) && tok.Text != tokens[i] {
				t.Fatalf("%q: %#v at %d", text, tok, places[i])
			}
			if i > 0 && places[i-1]+len(tokens[i-1]) < places[i] {
				apart++
			}
		}
		for i, w := range tokens {
			words[w]++
			if w == "weight" && tokens[i+1] == "0" {
				words["weight 0"]++
			}
		}
		if event := slices.Index(tokens, "event"); event >= 0 && slices.Contains(tokens[event:], "link") && slices.Contains(tokens[event:], "proc") {
			among++
		}
		for _, blank := range []string{" ", "\t", "\r", "\n", "#\n", "#"} {
			words[blank] += strings.Count(text, blank)
		}
	}
	for _, w := range []string{"put", "add", "mul", "send", "value", "weight", "weight 0", "var", " ", "\t", "\r", "\n", "#\n", "#"} {
		if words[w] < 20 {
			t.Errorf("%d times %q", words[w], w)
		}
	}
	if apart < 1000 || among < 20 {
		t.Errorf("%d, %d", apart, among)
	}
}
