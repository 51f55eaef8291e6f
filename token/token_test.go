package token_test

import (
	"math"
	"math/big"
	"regexp"
	"slices"
	"strings"
	"testing"

	"sandtable/api"
	"sandtable/sample"
	"sandtable/token"
)

const num = 1 << 40

// The chapter's type and kinds, as it gives them.
var _ = struct {
	Kind, At int
	Text     string
	N        int64
}(token.Token{})

func TestKinds(t *testing.T) {
	if token.End != 0 || token.Word != 1 || token.Num != 2 || token.Sign != 3 {
		t.Errorf("%d, %d, %d, %d", token.End, token.Word, token.Num, token.Sign)
	}
}

var (
	blanksAhead = regexp.MustCompile(`^([ \t\r\n]|#[^\n]*(\n|$))*`)
	wordAhead   = regexp.MustCompile(`^[a-z_][a-z_0-9]*`)
	numAhead    = regexp.MustCompile(`^-?[0-9]*`)
	numRight    = regexp.MustCompile(`^(0|-?[1-9][0-9]*)$`)
	blanksAlone = regexp.MustCompile(`^([ \t\r\n]|#[^\n]*\n)*$`)
	blanksToEnd = regexp.MustCompile(`^([ \t\r\n]|#[^\n]*\n)*(#[^\n]*)?$`)
)

// plain is what All must go through, of a text that isn't too long: the tokens ahead of a fault, and the fault.
func plain(text string) ([]token.Token, api.Fault) {
	var list []token.Token
	for at := 0; ; {
		at += len(blanksAhead.FindString(text[at:]))
		rest := text[at:]
		word, figures := wordAhead.FindString(rest), numAhead.FindString(rest)
		switch {
		case rest == "":
			return append(list, token.Token{At: at}), api.Fault{}
		case word != "":
			list = append(list, token.Token{Kind: 1, At: at, Text: word})
		case strings.Contains("{}=;", rest[:1]):
			list = append(list, token.Token{Kind: 3, At: at, Text: rest[:1]})
		case !numRight.MatchString(figures) || wordAhead.MatchString(rest[len(figures):]):
			return list, api.Fault{E: api.ErrForm, At: at}
		default:
			n, _ := new(big.Int).SetString(figures, 10)
			if n.CmpAbs(big.NewInt(num)) > 0 {
				return list, api.Fault{E: api.ErrRange, At: at}
			}
			list = append(list, token.Token{Kind: 2, At: at, Text: figures, N: n.Int64()})
		}
		at = at + len(list[len(list)-1].Text)
	}
}

// gone is what All goes through: what comes without a fault, and the fault.
func gone(t *testing.T, text string) ([]token.Token, api.Fault) {
	t.Helper()
	var list []token.Token
	fault, ended := api.Fault{}, false
	for tok, f := range token.All(text) {
		if ended || f != (api.Fault{}) && tok != (token.Token{}) {
			t.Fatalf("%.200q: %+v, %+v", text, tok, f)
		}
		if fault = f; f == (api.Fault{}) {
			list = append(list, tok)
		}
		ended = f != (api.Fault{}) || tok.Kind == token.End
	}
	return list, fault
}

// listed is what All goes through, held against List.
func listed(t *testing.T, text string) ([]token.Token, api.Fault) {
	t.Helper()
	list, fault := gone(t, text)
	want := list
	if fault != (api.Fault{}) {
		want = nil
	}
	if all, f := token.List(text); f != fault || !slices.Equal(all, want) || want == nil && all != nil {
		t.Fatalf("%.200q: listed %d, %+v; want %d, %+v", text, len(all), f, len(want), fault)
	}
	return list, fault
}

// checked is what All and List answer of a text, held against plain.
func checked(t *testing.T, text string) ([]token.Token, api.Fault) {
	t.Helper()
	want, fault := plain(text)
	list, f := listed(t, text)
	if f != fault || !slices.Equal(list, want) {
		t.Fatalf("%.200q: %+v, %+v; want %+v, %+v", text, list, f, want, fault)
	}
	return list, f
}

// texts are texts of all kinds of tokens and blanks, right ones and others.
func texts() []string {
	pieces := []string{"a", "z", "_", "x_9", "model", "9", "0", "-0", "00", "01", "-7", "-", "--", "10", "1099511627776", "-1099511627776", "1099511627777", "-1099511627777",
		"18446744073709551617", "{", "}", "=", ";", "#", "# a\n", "\n", "\r", "\r\n", "\t", " ", "  ", "A", "\x00", "\xff", "\u00e9", "\v", "\f", ",", "+", ".", "/"}
	var all []string
	for s := range sample.Numbers(3000) {
		text := ""
		for range 1 + s.Next(20) {
			if s.Next(3) == 0 {
				text += " "
			}
			// Most of them from the right ones: else a text is wrong from the beginning on.
			text += pieces[min(s.Next(len(pieces)), s.Next(len(pieces)), s.Next(len(pieces)))]
		}
		all = append(all, text)
	}
	return all
}

// P17.1: all texts of up to five bytes, of bytes of each kind.
func TestShortTexts(t *testing.T) {
	bytes := []byte("az_01-{;# \nA")
	all := []string{""}
	seen := map[api.Errno]int{}
	for range 5 {
		var longer []string
		for _, text := range all {
			for _, c := range bytes {
				longer = append(longer, text+string(c))
			}
		}
		for _, text := range longer {
			if len(text) < 5 || text[0] != 'A' && text[0] != ' ' {
				_, f := checked(t, text)
				seen[f.E]++
			}
		}
		all = longer
	}
	if seen[api.OK] < 1000 || seen[api.ErrForm] < 1000 {
		t.Errorf("%v", seen)
	}
}

// P17.1: longer ones.
func TestTexts(t *testing.T) {
	seen := map[api.Errno]int{}
	tokens := map[int]int{}
	for _, text := range texts() {
		list, f := checked(t, text)
		seen[f.E]++
		for _, tok := range list {
			tokens[tok.Kind]++
		}
	}
	if seen[api.OK] < 100 || seen[api.ErrForm] < 100 || seen[api.ErrRange] < 100 {
		t.Errorf("%v", seen)
	}
	for kind := range 4 {
		if tokens[kind] < 100 {
			t.Errorf("%d of kind %d", tokens[kind], kind)
		}
	}
}

// P17.1: each byte alone, and behind and ahead of something.
func TestBytes(t *testing.T) {
	for c := range 256 {
		for _, ahead := range []string{"", "a", "_", "1", "0", "-", "-1", "{", " ", "#", "#\n"} {
			for _, behind := range []string{"", "a", "1", "0", "-1", ";", "\n", " b"} {
				checked(t, ahead+string([]byte{byte(c)})+behind)
			}
		}
	}
}

// P17.1: what is a token, and where it isn't, written out.
func TestWritten(t *testing.T) {
	word := func(at int, text string) token.Token { return token.Token{Kind: token.Word, At: at, Text: text} }
	sign := func(at int, text string) token.Token { return token.Token{Kind: token.Sign, At: at, Text: text} }
	end := func(at int) token.Token { return token.Token{Kind: token.End, At: at} }
	n := func(at int, text string, n int64) token.Token {
		return token.Token{Kind: token.Num, At: at, Text: text, N: n}
	}
	for _, c := range []struct {
		text  string
		ahead []token.Token
		f     api.Fault
	}{
		{"", []token.Token{end(0)}, api.Fault{}},
		{" \t\r\n", []token.Token{end(4)}, api.Fault{}},
		{"#", []token.Token{end(1)}, api.Fault{}},
		{"# A\r9a\n_", []token.Token{word(7, "_"), end(8)}, api.Fault{}},
		{"a#b", []token.Token{word(0, "a"), end(3)}, api.Fault{}},
		{"var x = -3;", []token.Token{word(0, "var"), word(4, "x"), sign(6, "="), n(8, "-3", -3), sign(10, ";"), end(11)}, api.Fault{}},
		{"{}=;", []token.Token{sign(0, "{"), sign(1, "}"), sign(2, "="), sign(3, ";"), end(4)}, api.Fault{}},
		{"_9_z", []token.Token{word(0, "_9_z"), end(4)}, api.Fault{}},
		{"a-1", []token.Token{word(0, "a"), n(1, "-1", -1), end(3)}, api.Fault{}},
		{"0-1", []token.Token{n(0, "0", 0), n(1, "-1", -1), end(3)}, api.Fault{}},
		{"1 0;10#", []token.Token{n(0, "1", 1), n(2, "0", 0), sign(3, ";"), n(4, "10", 10), end(7)}, api.Fault{}},
		{"1A", []token.Token{n(0, "1", 1)}, api.Fault{E: api.ErrForm, At: 1}},
		{"aA", []token.Token{word(0, "a")}, api.Fault{E: api.ErrForm, At: 1}},
		{"a -", []token.Token{word(0, "a")}, api.Fault{E: api.ErrForm, At: 2}},
		{"- 1", nil, api.Fault{E: api.ErrForm}},
		{"--1", nil, api.Fault{E: api.ErrForm}},
		{"-a", nil, api.Fault{E: api.ErrForm}},
		{"0-0", []token.Token{n(0, "0", 0)}, api.Fault{E: api.ErrForm, At: 1}},
		{"00", nil, api.Fault{E: api.ErrForm}},
		{"-01", nil, api.Fault{E: api.ErrForm}},
		{"0_", nil, api.Fault{E: api.ErrForm}},
		{"; 12z", []token.Token{sign(0, ";")}, api.Fault{E: api.ErrForm, At: 2}},
		{"1+2", []token.Token{n(0, "1", 1)}, api.Fault{E: api.ErrForm, At: 1}},
		{"\xc3\xa9", nil, api.Fault{E: api.ErrForm}},
		{"a\x00", []token.Token{word(0, "a")}, api.Fault{E: api.ErrForm, At: 1}},
		{"a 1099511627777 A", []token.Token{word(0, "a")}, api.Fault{E: api.ErrRange, At: 2}},
		{"A 1099511627777", nil, api.Fault{E: api.ErrForm}},
		{"1099511627777a", nil, api.Fault{E: api.ErrForm}},
	} {
		if list, f := checked(t, c.text); f != c.f || !slices.Equal(list, c.ahead) {
			t.Errorf("%q: %+v, %+v", c.text, list, f)
		}
	}
}

// P17.1: numbers at the bounds, and beyond them, of what is allowed and of what 64 bits hold.
func TestNumbers(t *testing.T) {
	bounds := []string{"0", "9", "10", "1099511627776", "2147483648", "4294967296", "9223372036854775807", "9223372036854775808", "18446744073709551616", "18446744073709551617", "1" + strings.Repeat("0", 100), "36893488147419103233"}
	for _, s := range bounds {
		n, _ := new(big.Int).SetString(s, 10)
		for d := int64(-3); d <= 3; d++ {
			near := new(big.Int).Add(n, big.NewInt(d))
			for _, near := range []*big.Int{near, new(big.Int).Neg(near)} {
				list, f := checked(t, near.String())
				if near.CmpAbs(big.NewInt(num)) > 0 {
					if f != (api.Fault{E: api.ErrRange}) {
						t.Errorf("%s: %+v", near, f)
					}
				} else if len(list) != 2 || list[0].N != near.Int64() || list[0].Text != near.String() {
					t.Errorf("%s: %+v", near, list)
				}
			}
		}
	}
	for n := int64(-300); n <= 300; n++ {
		s := big.NewInt(n).String()
		if list, _ := checked(t, s); list[0] != (token.Token{Kind: token.Num, Text: s, N: n}) {
			t.Errorf("%d: %+v", n, list)
		}
	}
}

// P17.1: texts of as many bytes as may be, and of one more, whatever stands in them.
func TestLongTexts(t *testing.T) {
	const most = 1 << 22
	for _, c := range []struct {
		of     string
		tokens int
		f      api.Fault
	}{
		{" ", 1, api.Fault{}},
		{"#", 1, api.Fault{}},
		{"#\n", 1, api.Fault{}},
		{"a", 2, api.Fault{}},
		{"a ", most/2 + 1, api.Fault{}},
		{";", most + 1, api.Fault{}},
		{"0 ", most/2 + 1, api.Fault{}},
		{"1", 0, api.Fault{E: api.ErrRange}},
		{"0", 0, api.Fault{E: api.ErrForm}},
		{"-", 0, api.Fault{E: api.ErrForm}},
		{"A", 0, api.Fault{E: api.ErrForm}},
	} {
		text := strings.Repeat(c.of, most/len(c.of))
		if list, f := listed(t, text); len(list) != c.tokens || f != c.f {
			t.Errorf("%q: %d tokens, %+v", c.of, len(list), f)
		}
		for _, more := range []string{" ", "A", strings.Repeat("a", most)} {
			if list, f := listed(t, text+more); list != nil || f != (api.Fault{E: api.ErrLong}) {
				t.Errorf("%q, and more: %d tokens, %+v", c.of, len(list), f)
			}
		}
	}
	if _, f := listed(t, strings.Repeat("1", most-1)+"a"); f != (api.Fault{E: api.ErrForm}) {
		t.Errorf("digits, and a letter: %+v", f)
	}
	if _, f := listed(t, strings.Repeat(" ", most-1)+"A"); f != (api.Fault{E: api.ErrForm, At: most - 1}) {
		t.Errorf("the last byte: %+v", f)
	}
}

// P17.1: tokens may be gone through again, within themselves too, and stopped at any place.
func TestAgain(t *testing.T) {
	for _, text := range []string{"", "a", "A", "var x = -3; # so\n{}0", "a b A c", "a 1099511627777"} {
		seq := token.All(text)
		var want []token.Token
		var faults []api.Fault
		for tok, f := range seq {
			if want, faults = append(want, tok), append(faults, f); len(want) > len(text)+1 {
				t.Fatalf("%q: no end", text)
			}
		}
		for stop := 1; stop <= len(want); stop++ {
			n := 0
			seq(func(tok token.Token, f api.Fault) bool {
				if tok != want[n] || f != faults[n] {
					t.Errorf("%q, stopped at %d: %+v, %+v", text, stop, tok, f)
				}
				n++
				return n < stop
			})
			if n != stop {
				t.Errorf("%q, stopped at %d: %d", text, stop, n)
			}
		}
		rounds := 0
		for range seq {
			for range seq {
				rounds++
			}
		}
		if rounds != len(want)*len(want) {
			t.Errorf("%q: %d rounds within rounds", text, rounds)
		}
	}
}

// P17.1: no more is made of a text than is asked for.
func TestNoMoreIsMade(t *testing.T) {
	text := "a " + strings.Repeat(";", 1<<22-2)
	made := testing.AllocsPerRun(10, func() {
		for range token.All(text) {
			break
		}
	})
	if made > 100 {
		t.Errorf("%v things made for one token", made)
	}
}

// P17.1, P2: a list is new memory, the room behind it too.
func TestListIsNew(t *testing.T) {
	const text = "var x = -3;"
	checked(t, text)
	a, _ := token.List(text)
	b, _ := token.List(text)
	clear(a[:cap(a)])
	if again, _ := token.List(text); !slices.Equal(again, b) || len(b) != 6 || b[3].N != -3 {
		t.Errorf("%+v, %+v", again, b)
	}
}

// P17.2: tokens rise, none is in another one, each is of the text's bytes, and all bytes between them, up to the end or to a fault, are blanks.
func TestRise(t *testing.T) {
	all := texts()
	for s := range sample.Numbers(100) {
		text, _ := s.Spread(s.Tokens(s.Model(3, s.Next(6), s.Next(6), s.Next(6))))
		all = append(all, text)
	}
	for _, text := range all {
		list, f := gone(t, text)
		end := 0
		for _, tok := range list {
			between := blanksAlone
			if tok.Kind == token.End {
				between = blanksToEnd
			}
			if tok.At < end || !between.MatchString(text[end:tok.At]) || !strings.HasPrefix(text[tok.At:], tok.Text) || (tok.Text == "") != (tok.Kind == token.End) {
				t.Fatalf("%q: %+v behind %d", text, tok, end)
			}
			end = tok.At + len(tok.Text)
		}
		if f.E == api.OK && end != len(text) || f.E != api.OK && (f.At < end || !blanksAlone.MatchString(text[end:f.At])) {
			t.Fatalf("%q: %+v behind %d", text, f, end)
		}
	}
}

// P17.2: what a text is spread out of, are its tokens, where they stand.
func TestSpread(t *testing.T) {
	for s := range sample.Numbers(200) {
		tokens := s.Tokens(s.Model(1+s.Next(3), s.Next(9), s.Next(9), s.Next(9)))
		text, places := s.Spread(tokens)
		list, f := checked(t, text)
		if f != (api.Fault{}) || len(list) != len(tokens)+1 {
			t.Fatalf("%q: %d of %d, %+v", text, len(list), len(tokens), f)
		}
		for i, tok := range list {
			if tok.At != places[i] || i < len(tokens) && tok.Text != tokens[i] {
				t.Fatalf("%q: %+v; want %d", text, tok, places[i])
			}
		}
	}
}

// lineOf is what Line must answer.
func lineOf(text string, at int) (line, column int) {
	line, column = 1, 1
	for i := 0; i < at && i < len(text); i++ {
		column++
		if text[i] == '\n' {
			line, column = line+1, 1
		}
	}
	return line, column
}

// P17.1: the line, and the place in it, of each place of a text, and of places out of it.
func TestLine(t *testing.T) {
	all := append(texts(), "", "\n", "\n\n", "a\n", "\na", "ab\nc\nd", "\r\n\r", "\u00e9\n\u00e9\xff", strings.Repeat("ab\n", 300))
	for _, text := range all {
		places := []int{math.MinInt, -1 << 32, -2, -1, math.MaxInt, 1 << 32, 1 << 40}
		for at := range len(text) + 3 {
			places = append(places, at)
		}
		for _, at := range places {
			line, column := token.Line(text, at)
			if a, b := lineOf(text, at); line != a || column != b {
				t.Fatalf("%q at %d: %d, %d; want %d, %d", text, at, line, column, a, b)
			}
		}
	}
	long := strings.Repeat("\n", 1<<22) + "abc"
	if line, column := token.Line(long, math.MaxInt); line != 1<<22+1 || column != 4 {
		t.Errorf("a long text: %d, %d", line, column)
	}
}
