package ident_test

import (
	"slices"
	"strconv"
	"strings"
	"testing"

	"sandtable/api"
	"sandtable/ident"
)

const (
	letters = "abcdefghijklmnopqrstuvwxyz"
	others  = letters + "0123456789_"
)

// right tells by the chapter's words whether a name is right.
func right(s string) bool {
	if len(s) < 1 || len(s) > 64 || !strings.Contains(letters, s[:1]) {
		return false
	}
	for i := range s {
		if !strings.Contains(others, s[i:i+1]) {
			return false
		}
	}
	return true
}

func wants(ok bool) api.Errno {
	if ok {
		return api.OK
	}
	return api.ErrName
}

// P5.1: each byte, alone, and at each place of a name.
func TestCheckBytes(t *testing.T) {
	for c := range 256 {
		b := string([]byte{byte(c)})
		first, other := strings.Contains(letters, b), strings.Contains(others, b)
		for _, x := range []struct {
			s  string
			ok bool
		}{
			{b, first}, {b + "a", first}, {b + "_9", first}, {"a" + b, other}, {"a" + b + "a", other}, {"z9_" + b, other},
			{strings.Repeat("x", 63) + b, other}, {b + strings.Repeat("x", 63), first}, {strings.Repeat("x", 64) + b, false},
		} {
			if e := ident.Check(x.s); e != wants(x.ok) {
				t.Errorf("%q: %d", x.s, e)
			}
		}
	}
}

// P5.1: names of each length, and what is none.
func TestCheckLengths(t *testing.T) {
	for n := range 200 {
		if e := ident.Check(strings.Repeat("k", n)); e != wants(n >= 1 && n <= 64) {
			t.Errorf("of %d bytes: %d", n, e)
		}
	}
	if e := ident.Check(letters + "_0123456789"); e != api.OK {
		t.Errorf("all that may be: %d", e)
	}
	for _, s := range []string{"", "_", "0", "A", "aB", "a b", " a", "a ", "a\n", "a-b", "a.b", "\x00", "a\x00", "é", "aé", "a\xff", "\u017f", "a\u212a", "日", strings.Repeat("é", 32), strings.Repeat("a", 1<<20)} {
		if e := ident.Check(s); e != api.ErrName {
			t.Errorf("%.80q: %d", s, e)
		}
	}
}

// P5.1, P5.2: the stem, or the first number behind it, that isn't used.
func TestFresh(t *testing.T) {
	x := func(n int) string { return strings.Repeat("x", n) }
	upTo := func(stem string, n int) []string {
		list := []string{stem}
		for k := 2; k <= n; k++ {
			list = append(list, stem+"_"+strconv.Itoa(k))
		}
		return list
	}
	for _, c := range []struct {
		name string
		used []string
		stem string
		want string
		e    api.Errno
	}{
		{"none used", nil, "a", "a", api.OK},
		{"others used", []string{"b", "", "A", "a_2", "aa", "a_"}, "a", "a", api.OK},
		{"the chapter's", []string{"a", "b", "a"}, "a", "a_2", api.OK},
		{"it alone", []string{"a"}, "a", "a_2", api.OK},
		{"a gap", []string{"a_5", "a_3", "a", "a_2"}, "a", "a_4", api.OK},
		{"numbers written otherwise", []string{"a", "a_02", "a_1", "a_0", "a_", "a2", "a_-2", "a_+2"}, "a", "a_2", api.OK},
		{"a number of its own", []string{"a_2"}, "a_2", "a_2_2", api.OK},
		{"a low line of its own", []string{"a_"}, "a_", "a__2", api.OK},
		{"of two figures", upTo("a", 9), "a", "a_10", api.OK},
		{"of three figures", upTo("a", 99), "a", "a_100", api.OK},
		{"turned round", func() []string { l := upTo("ab", 40); slices.Reverse(l); return l }(), "ab", "ab_41", api.OK},
		{"many", upTo("a", 100000), "a", "a_100001", api.OK},
		{"64, not used", []string{x(63)}, x(64), x(64), api.OK},
		{"64, used", []string{x(64)}, x(64), "", api.ErrName},
		{"63, used", []string{x(63)}, x(63), "", api.ErrName},
		{"62, used", []string{x(62)}, x(62), x(62) + "_2", api.OK},
		{"62, up to 8 used", upTo(x(62), 8), x(62), x(62) + "_9", api.OK},
		{"62, up to 9 used", upTo(x(62), 9), x(62), "", api.ErrName},
		{"61, up to 9 used", upTo(x(61), 9), x(61), x(61) + "_10", api.OK},
		{"61, up to 99 used", upTo(x(61), 99), x(61), "", api.ErrName},
		{"65, not used", nil, x(65), "", api.ErrName},
		{"65, used", []string{x(65)}, x(65), "", api.ErrName},
		{"empty", nil, "", "", api.ErrName},
		{"empty, used", []string{""}, "", "", api.ErrName},
		{"a capital", nil, "A", "", api.ErrName},
		{"a capital, used", []string{"A"}, "A", "", api.ErrName},
		{"a figure first", []string{"9"}, "9", "", api.ErrName},
		{"a low line first", []string{"a"}, "_a", "", api.ErrName},
		{"a space behind", []string{"a "}, "a ", "", api.ErrName},
		{"not of this alphabet", []string{"é"}, "é", "", api.ErrName},
		{"wrong, long", []string{"a"}, strings.Repeat("A", 1<<20), "", api.ErrName},
	} {
		s, e := ident.Fresh(c.used, c.stem)
		if s != c.want || e != c.e {
			t.Errorf("%s: %.80q, %d; want %q, %d", c.name, s, e, c.want, c.e)
		}
		if e == api.OK && (!right(s) || slices.Contains(c.used, s)) {
			t.Errorf("%s: %q isn't right, or used", c.name, s)
		}
	}
}

// P5.2: whatever is used, what is fresh is right and not used; used itself, it isn't fresh any more.
func TestFreshAgainAndAgain(t *testing.T) {
	for _, stem := range []string{"a", "a_2", "a_2_2", strings.Repeat("y", 62)} {
		used := []string{"b", "a_2", "a_2_3"}
		for {
			s, e := ident.Fresh(used, stem)
			if e == api.ErrName && s == "" && len(stem) == 62 && len(used) == 3+9 || len(used) == 300 {
				break
			}
			if e != api.OK || !right(s) || slices.Contains(used, s) {
				t.Fatalf("%q with %d used: %q, %d", stem, len(used), s, e)
			}
			used = append(used, s)
		}
	}
}

// lists are all lists of up to four of some strings.
func lists() [][]string {
	all := [][]string{nil, {}}
	level := [][]string{{}}
	for range 4 {
		var next [][]string
		for _, l := range level {
			for _, s := range []string{"", "A", "a", "a_", "aa", "b", "\xff", "é"} {
				next = append(next, append(slices.Clone(l), s))
			}
		}
		all = append(all, next...)
		level = next
	}
	return all
}

// P5.1: in order is: each behind the one ahead of it, by its bytes.
func TestSorted(t *testing.T) {
	for _, c := range []struct {
		names []string
		want  bool
	}{
		{nil, true}, {[]string{}, true}, {[]string{""}, true}, {[]string{"b"}, true}, {[]string{"A!"}, true},
		{[]string{"a", "b"}, true}, {[]string{"b", "a"}, false}, {[]string{"a", "a"}, false}, {[]string{"", ""}, false},
		{[]string{"", "a"}, true}, {[]string{"a", ""}, false}, {[]string{"a", "aa"}, true}, {[]string{"aa", "a"}, false},
		{[]string{"a_10", "a_2"}, true}, {[]string{"a_2", "a_10"}, false}, {[]string{"B", "a"}, true}, {[]string{"a", "B"}, false},
		{[]string{"z", "é"}, true}, {[]string{"é", "z"}, false}, {[]string{"日", "\xff"}, true}, {[]string{"a\x00", "a"}, false},
		{[]string{"a", "b", "b"}, false}, {[]string{"a", "c", "b"}, false}, {[]string{"b", "a", "c"}, false}, {[]string{"a", "b", "c", "d"}, true},
	} {
		if ident.Sorted(c.names) != c.want {
			t.Errorf("%q: %v", c.names, !c.want)
		}
	}
	for _, l := range lists() {
		want := true
		for i := range l {
			for k := range i {
				want = want && slices.Compare([]byte(l[k]), []byte(l[i])) < 0
			}
		}
		if ident.Sorted(l) != want {
			t.Errorf("%q: %v", l, !want)
		}
	}
}

// P5.1: the first place, whole and to the letter.
func TestFind(t *testing.T) {
	for _, c := range []struct {
		names []string
		s     string
		want  int
	}{
		{nil, "", -1}, {nil, "a", -1}, {[]string{}, "a", -1}, {[]string{"a"}, "", -1}, {[]string{""}, "", 0},
		{[]string{"b", "a", "a"}, "a", 1}, {[]string{"aa", "A", "a ", "a"}, "a", 3}, {[]string{"a", "b"}, "c", -1},
		{[]string{"a", "b"}, "a", 0}, {[]string{"a", "b"}, "b", 1}, {[]string{"", "", "x"}, "x", 2}, {[]string{"a", "\xff"}, "\xff", 1}, {[]string{"a", "\xff"}, "\ufffd", -1},
	} {
		if at := ident.Find(c.names, c.s); at != c.want {
			t.Errorf("%q in %q: %d; want %d", c.s, c.names, at, c.want)
		}
	}
	for _, l := range lists() {
		for _, s := range []string{"", "a", "\xff", "c"} {
			want := -1
			for i := len(l) - 1; i >= 0; i-- {
				if l[i] == s {
					want = i
				}
			}
			if at := ident.Find(l, s); at != want {
				t.Errorf("%q in %q: %d; want %d", s, l, at, want)
			}
		}
	}
}

// P5.1, P5.2: all strings, each once, where they come first.
func TestDistinct(t *testing.T) {
	for _, l := range lists() {
		var want []string
		for _, s := range l {
			if !slices.Contains(want, s) {
				want = append(want, s)
			}
		}
		if got := slices.Collect(ident.Distinct(l)); !slices.Equal(got, want) {
			t.Errorf("%q: %q; want %q", l, got, want)
		}
	}
	var many, want []string
	for i := range 200000 {
		many = append(many, strconv.Itoa(i%50000))
	}
	for i := range 50000 {
		want = append(want, strconv.Itoa(i))
	}
	if got := slices.Collect(ident.Distinct(many)); !slices.Equal(got, want) {
		t.Errorf("of many: %d", len(got))
	}
}

// P5.1: distinct ones may be gone through again, within themselves too, and stopped at any place.
func TestDistinctAgain(t *testing.T) {
	seq := ident.Distinct([]string{"b", "a", "b", "", "a", "c"})
	want := []string{"b", "a", "", "c"}
	for stop := range 5 {
		var got []string
		for s := range seq {
			if len(got) == stop {
				break
			}
			got = append(got, s)
		}
		if !slices.Equal(got, want[:stop]) {
			t.Errorf("stopped at %d: %q", stop, got)
		}
	}
	rounds := 0
	for range seq {
		for range seq {
			rounds++
		}
	}
	if rounds != 16 {
		t.Errorf("%d rounds within rounds", rounds)
	}
}

// P2: lists that are handed in, and the memory behind them, are neither turned nor kept.
func TestNamesAreLeft(t *testing.T) {
	memory := []string{"b", "a", "b", "c", "a", "z"}
	was := slices.Clone(memory)
	for k := range memory {
		ident.Fresh(memory[:k], "a")
		ident.Sorted(memory[:k])
		ident.Find(memory[:k], "c")
		for range ident.Distinct(memory[:k]) {
		}
	}
	if !slices.Equal(memory, was) {
		t.Errorf("turned: %q", memory)
	}
	want := []string{"b", "a", "c"}
	seq := ident.Distinct(memory[:5])
	clear(memory)
	if got := slices.Collect(seq); !slices.Equal(got, want) {
		t.Errorf("written over behind the call: %q", got)
	}
	var got []string
	copy(memory, was)
	for s := range ident.Distinct(memory[:5]) {
		clear(memory)
		got = append(got, s)
	}
	if !slices.Equal(got, want) {
		t.Errorf("written over on the way: %q", got)
	}
}
