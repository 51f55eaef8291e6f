package digest_test

import (
	"bytes"
	"encoding/binary"
	"hash/crc32"
	"math"
	"slices"
	"testing"

	"sandtable/api"
	"sandtable/digest"
	"sandtable/sample"
)

// polys are polynomials that are used, and some that nobody would.
var polys = []uint32{digest.Usual, crc32.Castagnoli, crc32.Koopman, 0, 1, 0x80000000, 0xFFFFFFFF, 0x12345678}

// some is so many bytes, by a short rule.
func some(n int) []byte {
	s := sample.Numbers(n)
	return s.Bytes(n)
}

// told is a sum by the chapter's words, bit by bit, without a table.
func told(poly uint32, b []byte) uint32 {
	sum := uint32(0xFFFFFFFF)
	for _, c := range b {
		at := uint32(byte(sum) ^ c)
		for range 8 {
			if at&1 == 1 {
				at = at>>1 ^ poly
			} else {
				at >>= 1
			}
		}
		sum = at ^ sum>>8
	}
	return ^sum
}

// P4.1: a table at every byte.
func TestTable(t *testing.T) {
	for _, poly := range polys {
		x, want := digest.Make(poly), crc32.MakeTable(poly)
		for i := range 256 {
			if n := x.At(byte(i)); n != want[i] {
				t.Errorf("%x at %d: %x; want %x", poly, i, n, want[i])
			}
		}
	}
	for _, c := range []struct {
		poly uint32
		i    byte
		want uint32
	}{
		{digest.Usual, 0, 0}, {digest.Usual, 1, 0x77073096}, {digest.Usual, 2, 0xEE0E612C}, {digest.Usual, 128, 0xEDB88320}, {digest.Usual, 255, 0x2D02EF8D},
		{0, 255, 0}, {1, 128, 1}, {0x80000000, 1, 0x01000000}, {0x80000000, 128, 0x80000000}, {0x80000000, 255, 0xFF000000},
	} {
		if n := digest.Make(c.poly).At(c.i); n != c.want {
			t.Errorf("%x at %d: %x; want %x", c.poly, c.i, n, c.want)
		}
	}
	if digest.Usual != 0xEDB88320 {
		t.Errorf("Usual: %x", digest.Usual)
	}
}

// P4.1: sums of all polynomials, of no bytes too.
func TestSum(t *testing.T) {
	for _, c := range []struct {
		poly uint32
		b    string
		want uint32
	}{
		{digest.Usual, "", 0}, {digest.Usual, "123456789", 0xCBF43926}, {digest.Usual, "a", 0xE8B7BE43}, {digest.Usual, "\x00", 0xD202EF8D}, {digest.Usual, "\x00\x00", 0x41D912FF},
		{digest.Usual, "\xff\xff\xff\xff", 0xFFFFFFFF}, {crc32.Castagnoli, "123456789", 0xE3069283}, {crc32.Castagnoli, "", 0},
		{0, "\x00\x00\x00\x00", 0xFFFFFFFF}, {0, "\x00", 0xFF000000}, {0, "", 0},
	} {
		if n := digest.Make(c.poly).Sum([]byte(c.b)); n != c.want {
			t.Errorf("%x of %x: %x; want %x", c.poly, c.b, n, c.want)
		}
	}
	for _, poly := range polys {
		x := digest.Make(poly)
		if x.Sum(nil) != 0 || x.Sum([]byte{}) != 0 {
			t.Errorf("%x of no bytes: %x", poly, x.Sum(nil))
		}
		for i := range 256 {
			b := []byte{byte(i)}
			if n := x.Sum(b); n != told(poly, b) {
				t.Errorf("%x of %x: %x; want %x", poly, b, n, told(poly, b))
			}
		}
		for k := range 100 {
			b := some(k)
			if n := x.Sum(b); n != told(poly, b) || n != x.Sum(b) {
				t.Errorf("%x of %x: %x; want %x", poly, b, n, told(poly, b))
			}
		}
	}
	if b := some(100000); digest.Make(digest.Usual).Sum(b) != crc32.ChecksumIEEE(b) {
		t.Error("of many bytes")
	}
}

// P4.1: a sum in parts is the sum of all, wherever they are parted.
func TestMore(t *testing.T) {
	for _, poly := range polys {
		x, table := digest.Make(poly), crc32.MakeTable(poly)
		b := some(40)
		for i := range len(b) + 1 {
			for j := i; j <= len(b); j++ {
				n := x.More(x.More(x.Sum(b[:i]), b[i:j]), b[j:])
				if n != x.Sum(b) {
					t.Errorf("%x parted at %d and %d: %x; want %x", poly, i, j, n, x.Sum(b))
				}
			}
		}
		one := uint32(0)
		for i := range b {
			one = x.More(one, b[i:i+1])
		}
		if one != told(poly, b) {
			t.Errorf("%x byte by byte: %x; want %x", poly, one, told(poly, b))
		}
		for _, sum := range []uint32{0, 1, 0xCBF43926, 0x80000000, math.MaxUint32} {
			if x.More(sum, nil) != sum || x.More(sum, []byte{}) != sum {
				t.Errorf("%x behind %x: nothing more is %x", poly, sum, x.More(sum, nil))
			}
			if n := x.More(sum, b); n != crc32.Update(sum, table, b) {
				t.Errorf("%x behind %x: %x; want %x", poly, sum, n, crc32.Update(sum, table, b))
			}
		}
	}
	x := digest.Make(digest.Usual)
	if n := x.More(x.Sum([]byte("12345")), []byte("6789")); n != 0xCBF43926 {
		t.Errorf("12345 and 6789: %x", n)
	}
}

// P2: tables don't know of each other, and no sum turns them, nor the bytes that are handed in.
func TestTablesApart(t *testing.T) {
	b := some(30)
	was := bytes.Clone(b)
	x := digest.Make(digest.Usual)
	y := digest.Make(crc32.Castagnoli)
	for range 3 {
		if x.Sum(b) != told(digest.Usual, b) || y.Sum(b) != told(crc32.Castagnoli, b) || x.At(1) != 0x77073096 {
			t.Errorf("%x, %x", x.Sum(b), y.Sum(b))
		}
		x.More(5, b[:7])
	}
	if !slices.Equal(b, was) {
		t.Errorf("turned: %x", b)
	}
}

// P4.1: bytes and, behind them, their sum, the lowest byte first.
func TestSeal(t *testing.T) {
	for _, c := range []struct{ b, want string }{
		{"", "\x00\x00\x00\x00"},
		{"123456789", "123456789\x26\x39\xf4\xcb"},
		{"\x00", "\x00\x8d\xef\x02\xd2"},
		{"\xff\xff\xff\xff", "\xff\xff\xff\xff\xff\xff\xff\xff"},
	} {
		if s := digest.Seal([]byte(c.b)); string(s) != c.want {
			t.Errorf("%x: %x; want %x", c.b, s, c.want)
		}
	}
	if s := digest.Seal(nil); string(s) != "\x00\x00\x00\x00" {
		t.Errorf("nil: %x", s)
	}
	for k := range 300 {
		b := some(k)
		want := binary.LittleEndian.AppendUint32(bytes.Clone(b), crc32.ChecksumIEEE(b))
		if s := digest.Seal(b); !slices.Equal(s, want) {
			t.Errorf("%x: %x; want %x", b, s, want)
		}
	}
}

// P4.1: fewer than four bytes are too short, and nothing is answered beside an error.
func TestUnsealShort(t *testing.T) {
	for _, b := range [][]byte{nil, {}, {0}, {0, 0}, {0, 0, 0}, {1, 2, 3}, {0xFF, 0xFF, 0xFF}} {
		if got, e := digest.Unseal(b); len(got) != 0 || e != api.ErrShort {
			t.Errorf("%x: %x, %d", b, got, e)
		}
	}
	long := digest.Seal(some(9))
	for k := range 4 {
		if got, e := digest.Unseal(long[:k]); len(got) != 0 || e != api.ErrShort {
			t.Errorf("%x: %x, %d", long[:k], got, e)
		}
	}
}

// P4.1: another sum: one of another polynomial, turned round, of other bytes, or none.
func TestUnsealAnotherSum(t *testing.T) {
	b := []byte("123456789")
	sum := crc32.ChecksumIEEE(b)
	for _, c := range []struct {
		name string
		b    []byte
	}{
		{"the highest byte first", binary.BigEndian.AppendUint32(bytes.Clone(b), sum)},
		{"its bits not turned at last", binary.LittleEndian.AppendUint32(bytes.Clone(b), ^sum)},
		{"another polynomial's", binary.LittleEndian.AppendUint32(bytes.Clone(b), crc32.Checksum(b, crc32.MakeTable(crc32.Castagnoli)))},
		{"one more", binary.LittleEndian.AppendUint32(bytes.Clone(b), sum+1)},
		{"0", binary.LittleEndian.AppendUint32(bytes.Clone(b), 0)},
		{"a byte more behind", append(digest.Seal(b), 0)},
		{"a byte more ahead", append([]byte{0}, digest.Seal(b)...)},
		{"a byte less behind", digest.Seal(b)[:12]},
		{"a byte less ahead", digest.Seal(b)[1:]},
		{"four bytes that aren't 0", []byte{1, 0, 0, 0}},
		{"four bytes of 1", []byte{0xFF, 0xFF, 0xFF, 0xFF}},
		{"five bytes", []byte{0, 0, 0, 0, 0}},
	} {
		if got, e := digest.Unseal(c.b); len(got) != 0 || e != api.ErrSum {
			t.Errorf("%s: %x, %d", c.name, got, e)
		}
	}
}

// P4.2: what is sealed is unsealed, of all lengths, and as often as it is sealed.
func TestSealedIsUnsealed(t *testing.T) {
	for _, b := range [][]byte{nil, {}} {
		if got, e := digest.Unseal(digest.Seal(b)); len(got) != 0 || e != api.OK {
			t.Errorf("of no bytes: %x, %d", got, e)
		}
	}
	for k := range 300 {
		b := some(k)
		once := digest.Seal(b)
		if got, e := digest.Unseal(once); !slices.Equal(got, b) || e != api.OK {
			t.Errorf("%x: %x, %d", b, got, e)
		}
		if got, e := digest.Unseal(digest.Seal(once)); !slices.Equal(got, once) || e != api.OK {
			t.Errorf("%x, twice: %x, %d", b, got, e)
		}
	}
}

// turned holds that sealed bytes aren't unsealed with something turned.
func turned(t *testing.T, sealed, b []byte) {
	t.Helper()
	if got, e := digest.Unseal(b); len(got) != 0 || e != api.ErrSum {
		t.Errorf("%x turned into %x: %x, %d", sealed, b, got, e)
	}
}

// P4.2: with each bit turned, and with each choice of bits within eight that follow one another, at every place, nothing is unsealed.
func TestFewBitsTurned(t *testing.T) {
	for _, k := range []int{0, 1, 2, 5, 30} {
		sealed := digest.Seal(some(k))
		for from := range 8 * len(sealed) {
			for pattern := uint32(1); pattern < 256; pattern += 2 {
				turned(t, sealed, sample.Burst(sealed, from, pattern))
			}
		}
	}
}

// P4.2: with something turned within 32 bits that follow one another, at every place, across the sum's beginning too, nothing is unsealed.
func TestManyBitsTurned(t *testing.T) {
	for _, k := range []int{0, 1, 4, 11, 60} {
		sealed := digest.Seal(some(k))
		for b := range sample.Bursts(sealed) {
			turned(t, sealed, b)
		}
	}
}

// P4.2: none of all 2^32 - 1 turns within 32 bits is missed: what each of the bits does to the sum alone can't be put together from the others.
func TestNoTurnIsMissed(t *testing.T) {
	x := digest.Make(digest.Usual)
	b := some(20)
	for from := range 8*len(b) - 31 {
		var apart []uint32
		for i := range 32 {
			left := x.Sum(b) ^ x.Sum(sample.Burst(b, from+i, 1))
			for _, n := range apart {
				left = min(left, left^n)
			}
			if left == 0 {
				t.Fatalf("from bit %d on, bit %d does what some ahead of it do", from, i)
			}
			apart = append(apart, left)
		}
	}
}

// P2: bytes that are handed in, and the memory behind them, are neither turned nor kept.
func TestSealLeavesItsBytes(t *testing.T) {
	memory := some(40)
	was := bytes.Clone(memory)
	s := digest.Seal(memory[:9])
	if !slices.Equal(memory, was) {
		t.Errorf("turned: %x", memory)
	}
	clear(memory)
	if !slices.Equal(s, digest.Seal(was[:9])) {
		t.Errorf("kept: %x", s)
	}
	clear(s[:cap(s)])
	if !slices.Equal(digest.Seal(was[:9])[:9], was[:9]) || !slices.Equal(memory, make([]byte, 40)) {
		t.Error("shares memory")
	}
}

// P2: what is unsealed is new memory, spare room too.
func TestUnsealedIsNew(t *testing.T) {
	for _, k := range []int{0, 1, 9, 40} {
		sealed := digest.Seal(some(k))
		was := bytes.Clone(sealed)
		got, _ := digest.Unseal(sealed)
		again, _ := digest.Unseal(sealed)
		clear(got[:cap(got)])
		if !slices.Equal(sealed, was) || !slices.Equal(again, some(k)) {
			t.Errorf("of %d, shared: %x, %x", k, sealed, again)
		}
		clear(sealed)
		if !slices.Equal(again, some(k)) {
			t.Errorf("of %d, kept: %x", k, again)
		}
	}
}
