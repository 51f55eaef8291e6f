package wire_test

import (
	"bytes"
	"encoding/binary"
	"math"
	"slices"
	"strconv"
	"strings"
	"testing"

	"sandtable/api"
	"sandtable/sample"
	"sandtable/wire"
)

// field is a field: how it is written, the bytes that it must have, how it is read, and what must come of that.
type field struct {
	name  string
	write func(w *wire.Writer)
	want  string
	read  func(r *wire.Reader) string
	told  string
}

func fixed(n uint32) field {
	return field{"Fixed(" + strconv.FormatUint(uint64(n), 16) + ")", func(w *wire.Writer) { w.Fixed(n) },
		string(binary.LittleEndian.AppendUint32(nil, n)), readFixed, strconv.FormatUint(uint64(n), 10)}
}

func count(n int) field {
	kept := max(n, 0)
	return field{"Count(" + strconv.Itoa(n) + ")", func(w *wire.Writer) { w.Count(n) },
		string(binary.AppendUvarint(nil, uint64(kept))), readCount(kept), strconv.Itoa(kept)}
}

func num(n int64) field {
	return field{"Num(" + strconv.FormatInt(n, 10) + ")", func(w *wire.Writer) { w.Num(n) },
		string(binary.AppendVarint(nil, n)), readNum, strconv.FormatInt(n, 10)}
}

func text(s string) field {
	return field{"Text of " + strconv.Itoa(len(s)), func(w *wire.Writer) { w.Text(s) },
		string(binary.AppendUvarint(nil, uint64(len(s)))) + s, readText(len(s)), s}
}

func raw(s string) field {
	return field{"Raw of " + strconv.Itoa(len(s)), func(w *wire.Writer) { w.Raw([]byte(s)) }, s, readRaw(len(s)), s}
}

func readFixed(r *wire.Reader) string { return strconv.FormatUint(uint64(r.Fixed()), 10) }
func readNum(r *wire.Reader) string   { return strconv.FormatInt(r.Num(), 10) }
func readEnd(r *wire.Reader) string   { r.End(); return "" }

func readCount(most int) func(r *wire.Reader) string {
	return func(r *wire.Reader) string { return strconv.Itoa(r.Count(most)) }
}

func readText(most int) func(r *wire.Reader) string {
	return func(r *wire.Reader) string { return r.Text(most) }
}

func readRaw(n int) func(r *wire.Reader) string {
	return func(r *wire.Reader) string { return string(r.Raw(n)) }
}

// fields are those of each kind, at the edges of numbers of one byte and of two, and at the ends.
func fields() []field {
	list := []field{fixed(0), fixed(1), fixed(0x04030201), fixed(0x80000000), fixed(math.MaxUint32),
		text(""), text("ab"), text("\x00\xff\xfe no runes \x80"), text(strings.Repeat("x", 127)), text(strings.Repeat("y", 128)), text(strings.Repeat("z", 300)),
		raw(""), raw("\x09"), raw("\x80\x80"), raw(strings.Repeat("\xff", 200))}
	for _, n := range []int{0, 1, 127, 128, 300, 16383, 16384, math.MaxInt, -1, -5, -300, math.MinInt} {
		list = append(list, count(n))
	}
	for _, n := range []int64{0, -1, 1, -2, 63, 64, -64, -65, 1 << 40, -1 << 40, math.MaxInt64, math.MinInt64} {
		list = append(list, num(n))
	}
	return list
}

// P3.1: each field's bytes, written out.
func TestWritten(t *testing.T) {
	for _, c := range []struct {
		name  string
		write func(w *wire.Writer)
		want  string
	}{
		{"nothing", func(w *wire.Writer) {}, ""},
		{"Fixed, the lowest one first", func(w *wire.Writer) { w.Fixed(0x04030201) }, "\x01\x02\x03\x04"},
		{"Fixed of 258", func(w *wire.Writer) { w.Fixed(258) }, "\x02\x01\x00\x00"},
		{"Count of 300", func(w *wire.Writer) { w.Count(300) }, "\xac\x02"},
		{"Count below 0", func(w *wire.Writer) { w.Count(-1) }, "\x00"},
		{"Count of the least", func(w *wire.Writer) { w.Count(math.MinInt) }, "\x00"},
		{"Count of the greatest", func(w *wire.Writer) { w.Count(math.MaxInt64) }, "\xff\xff\xff\xff\xff\xff\xff\xff\x7f"},
		{"Num of -1, folded", func(w *wire.Writer) { w.Num(-1) }, "\x01"},
		{"Num of 1, folded", func(w *wire.Writer) { w.Num(1) }, "\x02"},
		{"Num of the least", func(w *wire.Writer) { w.Num(math.MinInt64) }, "\xff\xff\xff\xff\xff\xff\xff\xff\xff\x01"},
		{"Num of the greatest", func(w *wire.Writer) { w.Num(math.MaxInt64) }, "\xfe\xff\xff\xff\xff\xff\xff\xff\xff\x01"},
		{"Text", func(w *wire.Writer) { w.Text("ab") }, "\x02ab"},
		{"Text, by bytes", func(w *wire.Writer) { w.Text("\u00e9\xff") }, "\x03\xc3\xa9\xff"},
		{"Text of nothing", func(w *wire.Writer) { w.Text("") }, "\x00"},
		{"Raw", func(w *wire.Writer) { w.Raw([]byte{9, 0, 0xFF}) }, "\x09\x00\xff"},
		{"Raw of nothing", func(w *wire.Writer) { w.Raw(nil); w.Raw([]byte{}) }, ""},
		{"one behind the other", func(w *wire.Writer) { w.Text("a"); w.Raw([]byte{7}); w.Count(0); w.Num(0); w.Fixed(5) }, "\x01a\x07\x00\x00\x05\x00\x00\x00"},
	} {
		var w wire.Writer
		c.write(&w)
		if b := w.Done(); string(b) != c.want {
			t.Errorf("%s: %x; want %x", c.name, b, c.want)
		}
	}
	for _, f := range fields() {
		var w wire.Writer
		f.write(&w)
		if b := w.Done(); string(b) != f.want {
			t.Errorf("%s: %x; want %x", f.name, b, f.want)
		}
	}
}

// P3.1: all that was written is answered as often as it is asked for, and more is written behind it.
func TestWrittenOn(t *testing.T) {
	var w wire.Writer
	want := ""
	for _, f := range fields() {
		f.write(&w)
		want += f.want
		for range 2 {
			if b := w.Done(); string(b) != want {
				t.Fatalf("behind %s: %x; want %x", f.name, b, want)
			}
		}
	}
}

// P2: what is answered is new memory, spare room too: turned, it turns nothing that was or will be written.
func TestDoneIsNew(t *testing.T) {
	var w wire.Writer
	want := ""
	for range 20 {
		w.Text("abc")
		want += "\x03abc"
		b := w.Done()
		clear(b[:cap(b)])
		other := w.Done()
		w.Fixed(math.MaxUint32)
		want += "\xff\xff\xff\xff"
		if string(other) != want[:len(other)] || string(w.Done()) != want {
			t.Fatalf("%x, %x; want %x", other, w.Done(), want)
		}
		behind := append(other, "written behind the answer"...)
		if string(w.Done()) != want || len(behind) == 0 {
			t.Fatalf("%x; want %x", w.Done(), want)
		}
	}
}

// P2: bytes that are handed in, and the memory behind them, are neither turned nor kept.
func TestRawKeepsNothing(t *testing.T) {
	memory := []byte{1, 2, 3, 4, 5, 6, 7, 8}
	var w wire.Writer
	w.Raw(memory[:3])
	w.Fixed(math.MaxUint32)
	if !slices.Equal(memory, []byte{1, 2, 3, 4, 5, 6, 7, 8}) {
		t.Errorf("turned: %x", memory)
	}
	clear(memory)
	w.Raw(memory[:1])
	if string(w.Done()) != "\x01\x02\x03\xff\xff\xff\xff\x00" {
		t.Errorf("kept: %x", w.Done())
	}
}

// faults are bytes, what is read of them, and the fault: behind the good fields that stand ahead.
var faults = []struct {
	name string
	b    string
	read func(r *wire.Reader) string
	e    api.Errno
}{
	{"Fixed of nothing", "", readFixed, api.ErrShort},
	{"Fixed of three", "\x01\x02\x03", readFixed, api.ErrShort},
	{"Count of nothing", "", readCount(9), api.ErrShort},
	{"Count that goes on", "\x80", readCount(9), api.ErrShort},
	{"Count of nine that go on", "\xff\xff\xff\xff\xff\xff\xff\xff\xff", readCount(9), api.ErrShort},
	{"Count that isn't canonical", "\x80\x00", readCount(9), api.ErrForm},
	{"Count that isn't canonical, at most nothing", "\x85\x00", readCount(0), api.ErrForm},
	{"Count beyond 64 bits", "\xff\xff\xff\xff\xff\xff\xff\xff\xff\x02", readCount(math.MaxInt), api.ErrRange},
	{"Count of ten that go on", "\xff\xff\xff\xff\xff\xff\xff\xff\xff\xff", readCount(9), api.ErrRange},
	{"Count above most", "\x05", readCount(4), api.ErrLong},
	{"Count above 0", "\x01", readCount(0), api.ErrLong},
	{"Count above 0, for -1", "\x01", readCount(-1), api.ErrLong},
	{"Count above 0, for the least", "\x01", readCount(math.MinInt), api.ErrLong},
	{"Count of two bytes above most", "\xac\x02", readCount(299), api.ErrLong},
	{"Count above all ints", "\x80\x80\x80\x80\x80\x80\x80\x80\x80\x01", readCount(math.MaxInt), api.ErrLong},
	{"Count of all 64 bits", "\xff\xff\xff\xff\xff\xff\xff\xff\xff\x01", readCount(math.MaxInt), api.ErrLong},
	{"Count of all 64 bits, for -1", "\xff\xff\xff\xff\xff\xff\xff\xff\xff\x01", readCount(-1), api.ErrLong},
	{"Num of nothing", "", readNum, api.ErrShort},
	{"Num that goes on", "\xac", readNum, api.ErrShort},
	{"Num that isn't canonical", "\xac\x80\x00", readNum, api.ErrForm},
	{"Num beyond 64 bits", "\x80\x80\x80\x80\x80\x80\x80\x80\x80\x7f", readNum, api.ErrRange},
	{"Text of nothing", "", readText(9), api.ErrShort},
	{"Text whose length goes on", "\x81", readText(9), api.ErrShort},
	{"Text whose length isn't canonical", "\x82\x00ab", readText(9), api.ErrForm},
	{"Text whose length is beyond 64 bits", "\xff\xff\xff\xff\xff\xff\xff\xff\xff\x03ab", readText(9), api.ErrRange},
	{"Text without its bytes", "\x03", readText(9), api.ErrShort},
	{"Text with too few bytes", "\x03ab", readText(9), api.ErrShort},
	{"Text with too few bytes, just as many as may be", "\x03ab", readText(3), api.ErrShort},
	{"Text with a longer length than bytes", "\xac\x02ab", readText(300), api.ErrShort},
	{"Text of as many bytes as an int has", "\xff\xff\xff\xff\xff\xff\xff\xff\x7fab", readText(math.MaxInt), api.ErrShort},
	{"Text above most", "\x03abc", readText(2), api.ErrLong},
	{"Text above most, ahead of whether it is there", "\x03ab", readText(2), api.ErrLong},
	{"Text above most, without its bytes", "\x03", readText(2), api.ErrLong},
	{"Text above 0", "\x01a", readText(0), api.ErrLong},
	{"Text above -1", "\x01a", readText(-1), api.ErrLong},
	{"Text of nothing, above -1", "\x00", readText(-1), api.ErrLong},
	{"Text above all ints", "\x80\x80\x80\x80\x80\x80\x80\x80\x80\x01ab", readText(math.MaxInt), api.ErrLong},
	{"Text of all 64 bits", "\xff\xff\xff\xff\xff\xff\xff\xff\xff\x01ab", readText(2), api.ErrLong},
	{"Raw of nothing", "", readRaw(1), api.ErrShort},
	{"Raw of too few", "\x01\x02", readRaw(3), api.ErrShort},
	{"Raw of as many as an int has", "\x01\x02", readRaw(math.MaxInt), api.ErrShort},
	{"something left", "\x00", readEnd, api.ErrMore},
	{"much left", "\xff\xff\xff\xff\xff", readEnd, api.ErrMore},
}

// silent is what each read must tell behind a fault: 0 or nothing, and the fault stays, where it was.
func silent(t *testing.T, name string, r *wire.Reader, want api.Fault) {
	t.Helper()
	for range 2 {
		if n := r.Fixed(); n != 0 {
			t.Errorf("%s: Fixed %d behind it", name, n)
		}
		if n := r.Count(math.MaxInt); n != 0 {
			t.Errorf("%s: Count %d behind it", name, n)
		}
		if n := r.Num(); n != 0 {
			t.Errorf("%s: Num %d behind it", name, n)
		}
		if s := r.Text(math.MaxInt); s != "" {
			t.Errorf("%s: Text %q behind it", name, s)
		}
		for _, k := range []int{1, 0, -1, math.MaxInt} {
			if b := r.Raw(k); len(b) != 0 {
				t.Errorf("%s: Raw(%d) %x behind it", name, k, b)
			}
		}
		r.Count(-1)
		r.Text(-1)
		r.End()
		if r.Fault() != want || r.At() != want.At {
			t.Errorf("%s: %+v at %d behind it; want %+v", name, r.Fault(), r.At(), want)
		}
	}
}

// P3.1: a fault stands where its field begins, whatever was read ahead, and stays.
func TestFaults(t *testing.T) {
	for _, c := range faults {
		for _, ahead := range []string{"", "\x07", "\xac\x02\x01\x01\x01"} {
			r := wire.Open([]byte(ahead + c.b))
			if got := r.Raw(len(ahead)); string(got) != ahead || r.At() != len(ahead) || r.Fault() != (api.Fault{}) {
				t.Fatalf("%s: %x, %+v at %d, ahead", c.name, got, r.Fault(), r.At())
			}
			if s := c.read(r); s != "" && s != "0" {
				t.Errorf("%s: read %q", c.name, s)
			}
			want := api.Fault{E: c.e, At: len(ahead)}
			if r.Fault() != want || r.At() != want.At {
				t.Errorf("%s: %+v at %d; want %+v", c.name, r.Fault(), r.At(), want)
			}
			silent(t, c.name, r, want)
		}
	}
}

// P3.1: behind a fault nothing is read, though it could be: other fields that are there aren't.
func TestFaultThenGoodFields(t *testing.T) {
	good := "\x01\x01\x01\x01\x01\x01\x01\x01\x01\x01\x01\x01"
	for _, c := range []struct {
		read func(r *wire.Reader) string
		e    api.Errno
	}{{readCount(0), api.ErrLong}, {readText(0), api.ErrLong}, {readRaw(13), api.ErrShort}, {readEnd, api.ErrMore}} {
		r := wire.Open([]byte(good))
		c.read(r)
		silent(t, "of good fields", r, api.Fault{E: c.e})
	}
}

// P3.1: of no bytes at all nothing is read, and nothing is left.
func TestNoBytes(t *testing.T) {
	for _, b := range [][]byte{nil, {}} {
		r := wire.Open(b)
		r.End()
		if got := r.Raw(0); len(got) != 0 {
			t.Errorf("Raw(0): %x", got)
		}
		if got := r.Raw(-1); len(got) != 0 {
			t.Errorf("Raw(-1): %x", got)
		}
		if got := r.Raw(math.MinInt); len(got) != 0 {
			t.Errorf("Raw of the least: %x", got)
		}
		r.End()
		if r.Fault() != (api.Fault{}) || r.At() != 0 {
			t.Errorf("%+v at %d", r.Fault(), r.At())
		}
		silent(t, "no bytes", faulty(r), api.Fault{E: api.ErrShort})
	}
}

// faulty is a reader behind a Fixed that wasn't there.
func faulty(r *wire.Reader) *wire.Reader {
	r.Fixed()
	return r
}

// P3.1: bounds that are just reached, and numbers below 0.
func TestReadAtBounds(t *testing.T) {
	for _, c := range []struct {
		name string
		b    string
		read func(r *wire.Reader) string
		want string
		at   int
	}{
		{"Fixed", "\x01\x02\x03\x04\x05", readFixed, "67305985", 4},
		{"Count at most", "\x05\x09", readCount(5), "5", 1},
		{"Count below most", "\x05", readCount(6), "5", 1},
		{"Count of 0 at 0", "\x00\x00", readCount(0), "0", 1},
		{"Count of 0, for -1", "\x00\x00", readCount(-1), "0", 1},
		{"Count of 0, for the least", "\x00", readCount(math.MinInt), "0", 1},
		{"Count of two bytes", "\xac\x02\x80", readCount(300), "300", 2},
		{"Count of the greatest", "\xff\xff\xff\xff\xff\xff\xff\xff\x7f", readCount(math.MaxInt), "9223372036854775807", 9},
		{"Num of the least", "\xff\xff\xff\xff\xff\xff\xff\xff\xff\x01\x00", readNum, "-9223372036854775808", 10},
		{"Num of the greatest", "\xfe\xff\xff\xff\xff\xff\xff\xff\xff\x01", readNum, "9223372036854775807", 10},
		{"Num", "\x03\x03", readNum, "-2", 1},
		{"Text at most", "\x02abc", readText(2), "ab", 3},
		{"Text below most", "\x02abc", readText(math.MaxInt), "ab", 3},
		{"Text of nothing at 0", "\x00a", readText(0), "", 1},
		{"Raw of all", "abc", readRaw(3), "abc", 3},
		{"Raw of some", "abc", readRaw(1), "a", 1},
		{"Raw of none", "abc", readRaw(0), "", 0},
		{"Raw of -3", "abc", readRaw(-3), "", 0},
		{"Raw of the least", "abc", readRaw(math.MinInt), "", 0},
	} {
		r := wire.Open([]byte(c.b))
		if got := c.read(r); got != c.want || r.At() != c.at || r.Fault() != (api.Fault{}) {
			t.Errorf("%s: %q, %+v at %d; want %q at %d", c.name, got, r.Fault(), r.At(), c.want, c.at)
		}
	}
}

// model is a reader by the chapter's words: what is left, and how the next field is to be understood.
type model struct {
	b     string
	at    int
	fault api.Fault
}

// varied is the number at the beginning of bytes by layer 2's words.
func varied(s string) (n uint64, size int, e api.Errno) {
	last := slices.IndexFunc([]byte(s), func(c byte) bool { return c < 0x80 })
	if last < 0 && len(s) < 10 {
		return 0, 0, api.ErrShort
	}
	if last < 0 || last > 9 || last == 9 && s[9] > 1 {
		return 0, 0, api.ErrRange
	}
	if last > 0 && s[last] == 0 {
		return 0, 0, api.ErrForm
	}
	n, size = binary.Uvarint([]byte(s))
	return n, size, api.OK
}

// step reads a field: its error, what is told of it, and how many bytes it has.
func (m *model) step(f func(left string) (e api.Errno, told string, size int), nothing string) string {
	if m.fault.E != api.OK {
		return nothing
	}
	e, told, size := f(m.b[m.at:])
	if e != api.OK {
		m.fault = api.Fault{E: e, At: m.at}
		return nothing
	}
	m.at += size
	return told
}

// op is a call of a reader, by the program and by the model.
type op struct {
	name    string
	read    func(r *wire.Reader) string
	told    func(left string) (api.Errno, string, int)
	nothing string
}

func opFixed() op {
	return op{"Fixed", readFixed, func(left string) (api.Errno, string, int) {
		if len(left) < 4 {
			return api.ErrShort, "", 0
		}
		return api.OK, strconv.FormatUint(uint64(binary.LittleEndian.Uint32([]byte(left))), 10), 4
	}, "0"}
}

func opCount(most int) op {
	return op{"Count " + strconv.Itoa(most), readCount(most), func(left string) (api.Errno, string, int) {
		n, size, e := varied(left)
		if e == api.OK && n > uint64(max(most, 0)) {
			e = api.ErrLong
		}
		return e, strconv.FormatUint(n, 10), size
	}, "0"}
}

func opNum() op {
	return op{"Num", readNum, func(left string) (api.Errno, string, int) {
		_, size, e := varied(left)
		n, _ := binary.Varint([]byte(left))
		return e, strconv.FormatInt(n, 10), size
	}, "0"}
}

func opText(most int) op {
	return op{"Text " + strconv.Itoa(most), readText(most), func(left string) (api.Errno, string, int) {
		n, size, e := varied(left)
		if e != api.OK {
			return e, "", 0
		}
		if most < 0 || n > uint64(most) {
			return api.ErrLong, "", 0
		}
		if n > uint64(len(left)-size) {
			return api.ErrShort, "", 0
		}
		return api.OK, left[size : size+int(n)], size + int(n)
	}, ""}
}

func opRaw(n int) op {
	return op{"Raw " + strconv.Itoa(n), readRaw(n), func(left string) (api.Errno, string, int) {
		if n > len(left) {
			return api.ErrShort, "", 0
		}
		return api.OK, left[:max(n, 0)], max(n, 0)
	}, ""}
}

func opEnd() op {
	return op{"End", readEnd, func(left string) (api.Errno, string, int) {
		if left != "" {
			return api.ErrMore, "", 0
		}
		return api.OK, "", 0
	}, ""}
}

// someBytes are all texts of up to so many bytes of a few kinds.
func someBytes(longest int) []string {
	return sample.Texts(longest, "\x00", "\x01", "\x02", "\x03", "\x80", "\x82")
}

// follow reads ops of bytes, and holds each against the model.
func follow(t *testing.T, b string, ops []op) {
	t.Helper()
	r := wire.Open([]byte(b))
	m := &model{b: b}
	for _, o := range ops {
		got, want := o.read(r), m.step(o.told, o.nothing)
		if got != want || r.At() != m.at || r.Fault() != m.fault {
			var names []string
			for _, x := range ops {
				names = append(names, x.name)
			}
			t.Fatalf("of %x %s, at %s: %q, %+v at %d; want %q, %+v at %d", b, strings.Join(names, ", "), o.name, got, r.Fault(), r.At(), want, m.fault, m.at)
		}
	}
}

// P3.1: every order of three calls, of all short bytes.
func TestEveryOrderOfCalls(t *testing.T) {
	ops := []op{opFixed(), opCount(-1), opCount(0), opCount(1), opCount(130), opNum(), opText(-1), opText(0), opText(1), opText(2), opText(130), opRaw(-1), opRaw(0), opRaw(1), opRaw(2), opRaw(5), opEnd()}
	list := someBytes(3)
	for _, s := range someBytes(2) {
		list = append(list, "\x01a"+s, "\x01\x00\x00"+s, "\x80\x01"+s)
	}
	for _, a := range ops {
		for _, b := range ops {
			for _, c := range ops {
				for _, s := range list {
					follow(t, s, []op{a, b, c})
				}
			}
		}
	}
}

// P3.1: long orders of calls, of longer bytes, chosen by a short rule.
func TestLongOrdersOfCalls(t *testing.T) {
	ops := []op{opFixed(), opCount(200), opCount(1 << 40), opNum(), opNum(), opText(3), opText(200), opRaw(-7), opRaw(1), opRaw(3), opEnd()}
	state := uint64(1)
	next := func(n int) int {
		state = state*6364136223846793005 + 1442695040888963407
		return int(state>>33) % n
	}
	for range 20000 {
		b := make([]byte, next(40))
		for i := range b {
			b[i] = []byte{0, 1, 2, 3, 7, 0x41, 0x7F, 0x80, 0x80, 0x81, 0xFF, 0xFF}[next(12)]
		}
		order := make([]op, 12)
		for i := range order {
			order[i] = ops[next(len(ops))]
		}
		follow(t, string(b), order)
	}
}

// readBack reads fields in order, and holds each, and where it ends, against what was written.
func readBack(t *testing.T, b []byte, list []field) {
	t.Helper()
	r := wire.Open(b)
	at := 0
	for _, f := range list {
		at += len(f.want)
		if got := f.read(r); got != f.told || r.At() != at || r.Fault() != (api.Fault{}) {
			t.Fatalf("%s of %x: %q, %+v at %d; want %q at %d", f.name, b, got, r.Fault(), r.At(), f.told, at)
		}
	}
	r.End()
	if r.Fault() != (api.Fault{}) || r.At() != len(b) {
		t.Fatalf("at the end of %x: %+v at %d", b, r.Fault(), r.At())
	}
}

// P3.2: what is written is read as it, in order: each two fields, and all of them, in either order.
func TestWrittenIsRead(t *testing.T) {
	all := fields()
	turned := slices.Clone(all)
	slices.Reverse(turned)
	orders := [][]field{nil, all, turned, append(slices.Clone(all), turned...)}
	for _, a := range all {
		orders = append(orders, []field{a})
		for _, b := range all {
			orders = append(orders, []field{a, b})
		}
	}
	for _, list := range orders {
		var w wire.Writer
		for _, f := range list {
			f.write(&w)
		}
		readBack(t, w.Done(), list)
	}
}

// P3.2: without its last bytes no field is read; it is too short where it begins.
func TestWrittenCutOff(t *testing.T) {
	for _, f := range fields() {
		for k := range len(f.want) {
			r := wire.Open([]byte("\x09" + f.want[:k]))
			r.Raw(1)
			if got := f.read(r); got != "" && got != "0" {
				t.Errorf("%s of %x: %q", f.name, f.want[:k], got)
			}
			silent(t, f.name, r, api.Fault{E: api.ErrShort, At: 1})
		}
	}
}

// P2: bytes that are opened may be written over behind the call; they aren't turned.
func TestOpenKeepsNothing(t *testing.T) {
	b := []byte("\x01\x02\x03\x04\x02ab\x05\x09\x09")
	was := bytes.Clone(b)
	r := wire.Open(b[:8])
	if r.Fixed() != 0x04030201 {
		t.Error("Fixed")
	}
	if !slices.Equal(b, was) {
		t.Errorf("turned: %x", b)
	}
	clear(b)
	if s := r.Text(9); s != "ab" {
		t.Errorf("Text: %q", s)
	}
	if n := r.Num(); n != -3 {
		t.Errorf("Num: %d", n)
	}
	r.End()
	if r.Fault() != (api.Fault{}) {
		t.Errorf("%+v", r.Fault())
	}
}

// P2: bytes that are read are new memory, spare room too.
func TestRawIsNew(t *testing.T) {
	b := []byte("abcdefgh")
	r := wire.Open(b)
	first := r.Raw(2)
	clear(first[:cap(first)])
	second := r.Raw(2)
	kept := string(second)
	rest := append(second, "behind"...)
	third := r.Raw(4)
	if kept != "cd" || string(second) != "cd" || string(third) != "efgh" || string(b) != "abcdefgh" || len(rest) != 8 {
		t.Errorf("%q, %q, %q", kept, third, b)
	}
	clear(third[:cap(third)])
	if string(second) != "cd" {
		t.Errorf("%q shares memory", second)
	}
}

// P2: two readers of the same bytes don't know of each other.
func TestReadersApart(t *testing.T) {
	b := []byte{1, 2, 3}
	x, y := wire.Open(b), wire.Open(b)
	x.End()
	if y.Num() != -1 || y.At() != 1 || y.Fault() != (api.Fault{}) || x.At() != 0 || x.Fault().E != api.ErrMore {
		t.Errorf("%+v at %d, %+v at %d", x.Fault(), x.At(), y.Fault(), y.At())
	}
}
