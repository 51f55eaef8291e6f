package section_test

import (
	"bytes"
	"encoding/binary"
	"hash/crc32"
	"math"
	"slices"
	"strings"
	"testing"

	"sandtable/api"
	"sandtable/sample"
	"sandtable/section"
)

// bodies are bodies of each kind: none, ones that look like a file's beginning, and at the bounds of a number's bytes.
func bodies() [][]byte {
	s := sample.Numbers(3)
	return [][]byte{nil, {}, {0}, []byte("123456789"), []byte("SAND\x00"), packed(nil), s.Bytes(127), s.Bytes(128), s.Bytes(300)}
}

// lists are lists whose tags rise, of up to three sections, and of as many as may be.
func lists() [][]section.Section {
	all := [][]section.Section{nil, {}}
	for i, x := range bodies() {
		all = append(all, []section.Section{{Tag: 0, Body: x}}, []section.Section{{Tag: 255, Body: x}})
		for k, y := range bodies() {
			all = append(all, []section.Section{{Tag: 1, Body: x}, {Tag: 2, Body: y}})
			z := bodies()[(i+k)%len(bodies())]
			all = append(all, []section.Section{{Tag: 0, Body: x}, {Tag: 7, Body: y}, {Tag: 255, Body: z}})
		}
	}
	return append(all, many(127), many(128), many(255), many(256)[1:])
}

// many is sections of the tags from 0 on, with bodies of many lengths.
func many(n int) []section.Section {
	s := sample.Numbers(n)
	var list []section.Section
	for tag := range n {
		list = append(list, section.Section{Tag: byte(tag), Body: s.Bytes(tag % 9)})
	}
	return list
}

// packed is the bytes that a list of at most 255 sections must have.
func packed(list []section.Section) []byte {
	b := binary.AppendUvarint([]byte("SAND"), uint64(len(list)))
	for _, s := range list {
		b = binary.AppendUvarint(append(b, s.Tag), uint64(len(s.Body)))
		b = binary.LittleEndian.AppendUint32(b, crc32.ChecksumIEEE(s.Body))
	}
	for _, s := range list {
		b = append(b, s.Body...)
	}
	return sealed(b)
}

// sealed is bytes with their sum behind them.
func sealed(b []byte) []byte {
	return binary.LittleEndian.AppendUint32(bytes.Clone(b), crc32.ChecksumIEEE(b))
}

// unpacked is what Unpack must answer: the list that must have these bytes, or why there is none.
func unpacked(b []byte) ([]section.Section, api.Errno) {
	end := len(b) - 4
	if end < 0 {
		return nil, api.ErrShort
	}
	if crc32.ChecksumIEEE(b[:end]) != binary.LittleEndian.Uint32(b[end:]) {
		return nil, api.ErrSum
	}
	if !bytes.HasPrefix(b[:end], []byte("SAND")) {
		return nil, api.ErrSign
	}
	list := guessed(b[4:end])
	if len(list) > 255 || !bytes.Equal(packed(list), b) {
		return nil, api.ErrForm
	}
	for i := 1; i < len(list); i++ {
		if list[i].Tag <= list[i-1].Tag {
			return nil, api.ErrForm
		}
	}
	return list, api.OK
}

// guessed is the only list that may have these bytes behind the sign, as far as they reach, and ahead of their sum.
func guessed(b []byte) []section.Section {
	number := func() int {
		n, size := binary.Uvarint(b)
		b = b[max(size, 0):]
		return int(min(n, 1<<20))
	}
	var list []section.Section
	var sizes []int
	for range number() {
		if len(b) == 0 {
			break
		}
		tag := b[0]
		b = b[1:]
		list, sizes = append(list, section.Section{Tag: tag}), append(sizes, number())
		b = b[min(4, len(b)):]
	}
	for i, n := range sizes {
		n = min(n, len(b))
		list[i].Body, b = b[:n], b[n:]
	}
	return list
}

// same tells whether two lists are the same, section by section.
func same(x, y []section.Section) bool {
	return slices.EqualFunc(x, y, func(a, b section.Section) bool { return a.Tag == b.Tag && bytes.Equal(a.Body, b.Body) })
}

// tried holds what is unpacked of bytes.
func tried(t *testing.T, b []byte) api.Errno {
	t.Helper()
	want, e := unpacked(b)
	list, got := section.Unpack(b)
	if got != e || !same(list, want) || e != api.OK && list != nil {
		t.Fatalf("%.200x: %.100x, %d; want %.100x, %d", b, list, got, want, e)
	}
	if e != api.OK {
		return e
	}
	if again, e := section.Pack(list); e != api.OK || !bytes.Equal(again, b) {
		t.Fatalf("%.200x, packed again: %.200x, %d", b, again, e)
	}
	return e
}

// P22.1: files, written out.
func TestWrittenOut(t *testing.T) {
	for _, c := range []struct {
		list []section.Section
		want string
	}{
		{nil, "SAND\x00"},
		{[]section.Section{{Tag: 1}}, "SAND\x01\x01\x00\x00\x00\x00\x00"},
		{[]section.Section{{Tag: 0, Body: []byte("a")}}, "SAND\x01\x00\x01\x43\xbe\xb7\xe8a"},
		{[]section.Section{{Tag: 255, Body: []byte{0}}}, "SAND\x01\xff\x01\x8d\xef\x02\xd2\x00"},
		{[]section.Section{{Tag: 1, Body: []byte("123456789")}, {Tag: 7}}, "SAND\x02\x01\x09\x26\x39\xf4\xcb\x07\x00\x00\x00\x00\x00123456789"},
		{[]section.Section{{Tag: 1}, {Tag: 128, Body: []byte("a")}, {Tag: 129, Body: []byte("123456789")}}, "SAND\x03\x01\x00\x00\x00\x00\x00\x80\x01\x43\xbe\xb7\xe8\x81\x09\x26\x39\xf4\xcba123456789"},
		{[]section.Section{{Tag: 5, Body: []byte(strings.Repeat("\xff", 128))}}, "SAND\x01\x05\x80\x01" + string(binary.LittleEndian.AppendUint32(nil, crc32.ChecksumIEEE(bytes.Repeat([]byte{0xFF}, 128)))) + strings.Repeat("\xff", 128)},
	} {
		b, e := section.Pack(c.list)
		if e != api.OK || string(b) != string(sealed([]byte(c.want))) {
			t.Errorf("%.100x: %x, %d; want %x", c.list, b, e, c.want)
		}
		if len(c.list) == 0 && len(b) != 9 {
			t.Errorf("%d bytes", len(b))
		}
	}
}

// P22.1, P22.2: what is packed has the bytes that it must have, and is unpacked.
func TestPackedIsUnpacked(t *testing.T) {
	for _, list := range lists() {
		b, e := section.Pack(list)
		if e != api.OK || !bytes.Equal(b, packed(list)) {
			t.Fatalf("%.100x: %.200x, %d; want %.200x", list, b, e, packed(list))
		}
		if e := tried(t, b); e != api.OK {
			t.Fatalf("%.100x: %d", list, e)
		}
		if back, e := section.Unpack(b); e != api.OK || !same(back, list) {
			t.Fatalf("%.100x: %.100x, %d", list, back, e)
		}
	}
	long := []section.Section{{Tag: 3, Body: bytes.Repeat([]byte("long"), 1<<18)}, {Tag: 4, Body: packed(many(255))}}
	b, _ := section.Pack(long)
	if e := tried(t, b); e != api.OK || !bytes.Equal(b, packed(long)) {
		t.Errorf("%d bytes: %d", len(b), e)
	}
}

// P22.1: more sections than may be, whatever their tags are, and tags that don't rise, wherever they stand.
func TestNotPacked(t *testing.T) {
	tagged := func(tags ...byte) []section.Section {
		var list []section.Section
		for _, tag := range tags {
			list = append(list, section.Section{Tag: tag, Body: []byte{tag}})
		}
		return list
	}
	last := many(255)
	last[254].Tag = 253
	for i, c := range []struct {
		list []section.Section
		e    api.Errno
	}{
		{many(256), api.ErrMany},
		{make([]section.Section, 256), api.ErrMany},
		{append(many(255), section.Section{Tag: 3}), api.ErrMany},
		{make([]section.Section, 100000), api.ErrMany},
		{make([]section.Section, 255), api.ErrOrder},
		{last, api.ErrOrder},
		{tagged(0, 0), api.ErrOrder},
		{tagged(1, 0), api.ErrOrder},
		{tagged(255, 255), api.ErrOrder},
		{tagged(255, 0), api.ErrOrder},
		{tagged(128, 127), api.ErrOrder},
		{tagged(1, 2, 2), api.ErrOrder},
		{tagged(1, 3, 2), api.ErrOrder},
		{tagged(2, 1, 3), api.ErrOrder},
		{tagged(2, 2, 3), api.ErrOrder},
	} {
		if b, e := section.Pack(c.list); b != nil || e != c.e {
			t.Errorf("case %d: %.200x, %d; want %d", i, b, e, c.e)
		}
	}
	for n := range 4 {
		for _, tags := range sample.Lists(n, 0, 3) {
			var list []section.Section
			rise := true
			for i, tag := range tags {
				list = append(list, section.Section{Tag: byte(tag * 85)})
				rise = rise && (i == 0 || tag > tags[i-1])
			}
			if b, e := section.Pack(list); (e == api.OK) != rise || e != api.OK && (e != api.ErrOrder || b != nil) {
				t.Errorf("%v: %x, %d", tags, b, e)
			}
		}
	}
}

// P22.1: bytes that are no file, written out: layer 4's errors first, then the sign, then all else.
func TestNotUnpacked(t *testing.T) {
	for _, c := range []struct {
		b []byte
		e api.Errno
	}{
		{nil, api.ErrShort},
		{[]byte("SAN"), api.ErrShort},
		{[]byte("SAND"), api.ErrSum},
		{[]byte("SAND\x00"), api.ErrSum},
		{append(packed(nil), 0), api.ErrSum},
		{packed(nil)[1:], api.ErrSum},
		{[]byte{0, 0, 0, 0}, api.ErrSign},
		{sealed([]byte("SAN")), api.ErrSign},
		{sealed([]byte("sand\x00")), api.ErrSign},
		{sealed([]byte("\x04SAND\x00")), api.ErrSign},
		{sealed([]byte("DNAS")), api.ErrSign},
		{sealed([]byte("SANE\x80\x00")), api.ErrSign},
		{sealed([]byte("SAND")), api.ErrForm},
		{sealed([]byte("SAND\x80")), api.ErrForm},
		{sealed([]byte("SAND\x80\x00")), api.ErrForm},
		{sealed([]byte("SAND\x00\x00")), api.ErrForm},
		{sealed(packed(nil)), api.ErrForm},
		{sealed([]byte("SAND\x01")), api.ErrForm},
		{sealed([]byte("SAND\x01\x05")), api.ErrForm},
		{sealed([]byte("SAND\x01\x05\x00")), api.ErrForm},
		{sealed([]byte("SAND\x01\x05\x00\x00\x00\x00")), api.ErrForm},
		{sealed([]byte("SAND\x01\x05\x80\x00\x00\x00\x00\x00")), api.ErrForm},
		{sealed([]byte("SAND\x01\x05\x00\x00\x00\x00\x00a")), api.ErrForm},
		{sealed([]byte("SAND\x01\x05\x01\x43\xbe\xb7\xe8")), api.ErrForm},
		{sealed([]byte("SAND\x01\x05\x01\x43\xbe\xb7\xe8b")), api.ErrForm},
		{sealed([]byte("SAND\x01\x05\x01\xe8\xb7\xbe\x43a")), api.ErrForm},
		{sealed([]byte("SAND\x01\x05\x01\x43\xbe\xb7\xe8aa")), api.ErrForm},
		{sealed([]byte("SAND\x00\x05\x01\x43\xbe\xb7\xe8a")), api.ErrForm},
		{sealed([]byte("SAND\x02\x05\x00\x00\x00\x00\x00\x05\x00\x00\x00\x00\x00")), api.ErrForm},
		{sealed([]byte("SAND\x02\x05\x00\x00\x00\x00\x00\x04\x00\x00\x00\x00\x00")), api.ErrForm},
		{sealed([]byte("SAND\x02\x05\x00\x00\x00\x00\x00\x06\x00\x00\x00\x00\x01")), api.ErrForm},
		{sealed([]byte("SAND\x01\x05\xff\xff\xff\xff\xff\xff\xff\xff\x7f\x00\x00\x00\x00a")), api.ErrForm},
		{sealed([]byte("SAND\x01\x05\xff\xff\xff\xff\xff\xff\xff\xff\xff\x01\x00\x00\x00\x00a")), api.ErrForm},
		{sealed([]byte("SAND\x01\x05\xff\xff\xff\xff\xff\xff\xff\xff\xff\x02\x00\x00\x00\x00a")), api.ErrForm},
		{sealed([]byte("SAND\xff\xff\xff\xff\xff\xff\xff\xff\x7f")), api.ErrForm},
		{sealed([]byte("SAND\xff\xff\xff\xff\xff\xff\xff\xff\xff\x01")), api.ErrForm},
		// Sections that stand one after the other, not their bodies behind all of them.
		{sealed([]byte("SAND\x02\x05\x01\x43\xbe\xb7\xe8a\x06\x00\x00\x00\x00\x00")), api.ErrForm},
		// As many as tags there are, but more than may be.
		{packed(many(256)), api.ErrForm},
		{packed(make([]section.Section, 255)), api.ErrForm},
	} {
		if list, e := section.Unpack(c.b); list != nil || e != c.e {
			t.Errorf("%.100q: %.100x, %d; want %d", c.b, list, e, c.e)
		}
		tried(t, c.b)
	}
}

// P22.1, P22.2: of all bytes that are one edit away from a file's, sealed anew, those of a list alone are unpacked, and are these bytes again.
func TestEdited(t *testing.T) {
	seen := map[api.Errno]int{}
	for _, list := range [][]section.Section{
		nil,
		{{Tag: 1}},
		{{Tag: 4}, {Tag: 6}},
		{{Tag: 0, Body: []byte("a")}, {Tag: 2, Body: []byte{0, 0, 0}}, {Tag: 255}},
	} {
		b := packed(list)
		for other := range sample.Edits(b[:len(b)-4]) {
			seen[tried(t, sealed(other))]++
		}
	}
	for _, e := range []api.Errno{api.OK, api.ErrSign, api.ErrForm} {
		if seen[e] < 100 {
			t.Errorf("%v", seen)
		}
	}
}

// P22.1, P22.2: all short bytes of a few kinds behind the sign, and bytes of no kind, sealed or not.
func TestAnyBytes(t *testing.T) {
	seen := map[api.Errno]int{}
	for _, s := range sample.Texts(5, "\x00", "\x01", "\x02", "\x80", "\x00\x00\x00\x00", "\x01\x43\xbe\xb7\xe8", "a") {
		seen[tried(t, sealed([]byte("SAND"+s)))]++
	}
	if seen[api.OK] < 10 || seen[api.ErrForm] < 1000 {
		t.Errorf("%v", seen)
	}
	s := sample.Numbers(1)
	for n := range 300 {
		tried(t, s.Bytes(n%60))
		tried(t, sealed(s.Bytes(n%60)))
		tried(t, sealed(append([]byte("SAND"), s.Bytes(n%60)...)))
	}
}

// P22.2: with something turned within 32 bits that follow one another, in whichever part of a file, nothing is unpacked.
func TestTurned(t *testing.T) {
	s := sample.Numbers(4)
	for _, list := range [][]section.Section{
		nil,
		{{Tag: 1, Body: []byte("123456789")}, {Tag: 7}},
		{{Tag: 0, Body: s.Bytes(30)}, {Tag: 1, Body: s.Bytes(40)}},
	} {
		b, _ := section.Pack(list)
		for other := range sample.Bursts(b) {
			if got, e := section.Unpack(other); got != nil || e != api.ErrSum {
				t.Fatalf("%x turned into %x: %x, %d", b, other, got, e)
			}
		}
	}
}

// P22.1: without its last bytes, or its first ones, no file is unpacked, sealed anew or not.
func TestCutOff(t *testing.T) {
	b := packed([]section.Section{{Tag: 1, Body: []byte("123456789")}, {Tag: 7, Body: packed(nil)}})
	inner := b[:len(b)-4]
	for k := range inner {
		for _, part := range [][]byte{b[:k], b[k+1:], sealed(inner[:k]), sealed(inner[k+1:])} {
			if e := tried(t, part); e == api.OK {
				t.Errorf("%x", part)
			}
		}
	}
}

// P22.1: the first section with a tag, in whichever list, and whichever body it has.
func TestFind(t *testing.T) {
	list := []section.Section{{Tag: 7, Body: []byte("x")}, {Tag: 1}, {Tag: 7, Body: []byte("y")}, {Tag: 0, Body: []byte{}}, {Tag: 255, Body: []byte("SAND")}, {Tag: 1, Body: []byte("z")}}
	want := map[byte]string{7: "x", 1: "", 0: "", 255: "SAND"}
	for tag := range 256 {
		body, is := want[byte(tag)]
		if got, ok := section.Find(list, byte(tag)); string(got) != body || ok != is || !ok && got != nil {
			t.Errorf("%d: %q, %v", tag, got, ok)
		}
		for _, none := range [][]section.Section{nil, {}} {
			if got, ok := section.Find(none, byte(tag)); got != nil || ok {
				t.Errorf("%d of none: %q, %v", tag, got, ok)
			}
		}
	}
	for i, s := range many(256) {
		if got, ok := section.Find(many(256), byte(i)); !bytes.Equal(got, s.Body) || !ok {
			t.Errorf("%d of many: %q, %v", i, got, ok)
		}
	}
}

// P22.1: all tags, as they stand, again, within themselves too, and stopped at any place.
func TestTags(t *testing.T) {
	for _, tags := range [][]byte{nil, {0}, {1, 7}, {7, 1, 7, 0, 255, 255}} {
		var list []section.Section
		for _, tag := range tags {
			list = append(list, section.Section{Tag: tag, Body: []byte("body")})
		}
		if !sample.Gone(section.Tags(list), tags) {
			t.Errorf("not %v", tags)
		}
	}
	n := 0
	for tag := range section.Tags(many(1000)) {
		if tag != byte(n) {
			t.Fatalf("%d at %d", tag, n)
		}
		n++
	}
	if n != 1000 {
		t.Errorf("%d", n)
	}
}

// P2: what is handed in, and the memory behind it, is neither turned nor kept.
func TestListIsLeft(t *testing.T) {
	memory := []byte("12345behind")
	all := []section.Section{{Tag: 1, Body: memory[:5]}, {Tag: 2, Body: memory[:3]}, {Tag: 9, Body: []byte("behind")}}
	list := all[:2]
	b, _ := section.Pack(list)
	tags := section.Tags(list)
	found, _ := section.Find(list, 2)
	if string(memory) != "12345behind" || all[0].Tag != 1 || len(all[1].Body) != 3 || all[2].Tag != 9 || string(all[2].Body) != "behind" {
		t.Errorf("turned: %q, %v", memory, all)
	}
	clear(memory)
	clear(all)
	if !bytes.Equal(b, packed([]section.Section{{Tag: 1, Body: []byte("12345")}, {Tag: 2, Body: []byte("123")}})) || string(found) != "123" {
		t.Errorf("kept: %x, %q", b, found)
	}
	if !sample.Gone(tags, []byte{1, 2}) {
		t.Errorf("kept: %v", slices.Collect(tags))
	}
	list = many(3)
	n := 0
	for tag := range section.Tags(list) {
		if int(tag) != n {
			t.Errorf("%d at %d", tag, n)
		}
		n++
		list[n%3].Tag = 77
	}
}

// P2: what is answered is new memory, spare room too: written over, it turns neither what was handed in nor anything else.
func TestAnswersAreNew(t *testing.T) {
	list := many(40)
	b, _ := section.Pack(list)
	was := bytes.Clone(b)
	back, _ := section.Unpack(b)
	again, _ := section.Unpack(b)
	for i, s := range back {
		room := s.Body[:cap(s.Body)]
		for k := range room {
			room[k] = byte(i)
		}
	}
	for i, s := range back {
		for _, c := range s.Body[:cap(s.Body)] {
			if c != byte(i) {
				t.Fatalf("%d shares memory", i)
			}
		}
	}
	if !bytes.Equal(b, was) || !same(again, list) {
		t.Errorf("%x", b)
	}
	clear(b[:cap(b)])
	if !same(again, list) || !same(list, many(40)) {
		t.Errorf("kept: %x", again)
	}
	for i, s := range list {
		found, _ := section.Find(list, byte(i))
		clear(found[:cap(found)])
		if !bytes.Equal(s.Body, many(40)[i].Body) {
			t.Errorf("%d: %x", i, s.Body)
		}
	}
}

// P1: a body whose told length is as great as a number may be ends with the bytes.
func TestGreatLengths(t *testing.T) {
	for _, n := range []uint64{1 << 31, 1 << 32, 1 << 62, math.MaxInt64, math.MaxInt64 + 1, math.MaxUint64} {
		for _, tail := range []string{"", "\x00\x00\x00\x00", "\x00\x00\x00\x00\x00\x00\x00\x00"} {
			b := append(binary.AppendUvarint([]byte("SAND\x01\x00"), n), tail...)
			if list, e := section.Unpack(sealed(b)); list != nil || e != api.ErrForm {
				t.Errorf("%d: %v, %d", n, list, e)
			}
			b = append(binary.AppendUvarint([]byte("SAND"), n), tail...)
			if list, e := section.Unpack(sealed(b)); list != nil || e != api.ErrForm {
				t.Errorf("%d: %v, %d", n, list, e)
			}
		}
	}
}
