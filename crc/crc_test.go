package crc_test

import (
	"hash/crc32"
	"strings"
	"testing"

	"rollbacknet/crc"
)

// wantUpdate tests a checksum, and that Of is Update from 0 on.
func wantUpdate(t *testing.T, sum uint32, b []byte, want uint32) {
	t.Helper()
	if got := crc.Update(sum, b); got != want {
		t.Errorf("Update(%x, %s) = %x, want %x", sum, short(b), got, want)
	}
	if sum == 0 {
		wantOf(t, b, want)
	}
}

func wantOf(t *testing.T, b []byte, want uint32) {
	t.Helper()
	if got := crc.Of(b); got != want {
		t.Errorf("Of(%s) = %x, want %x", short(b), got, want)
	}
}

// P9.1: written checksums: the examples of the chapter, and known ones.
func TestP9_1Written(t *testing.T) {
	var row strings.Builder
	for i := range 32 {
		row.WriteByte(byte(i))
	}
	for _, x := range []struct {
		sum  uint32
		b    string
		want uint32
	}{
		{0, "123456789", 0xcbf43926},
		{0, "", 0},
		{0, "\x00\x00\x00\x00", 0x2144df1c},
		{0, "\x00", 0xd202ef8d},
		{0, "\xff", 0xff000000},
		{0, "\xff\xff\xff\xff", 0xffffffff},
		{0, "a", 0xe8b7be43},
		{0, "abc", 0x352441c2},
		{0, "The quick brown fox jumps over the lazy dog", 0x414fa339},
		{0, strings.Repeat("\x00", 32), 0x190a55ad},
		{0, strings.Repeat("\xff", 32), 0xff6cab0b},
		{0, row.String(), 0x91267e8a},
		// The bits of s: all of them are 0, or one of them is 1.
		{0xffffffff, "\x00", 0xffffffff},
		{0xffffffff, "\x00\x00\x00\x00\x00", 0xffffffff},
		{0x7fffffff, "\x00", 0xff7fffff},
		{0xfffffffe, "\x01", 0xffffffff},
		{0xffffffff, "\x80", 0x12477cdf},
		{0xffffff7f, "\x00", 0x12477cdf},
		{0xfffffeff, "\x00", 0xfffffffe},
	} {
		wantUpdate(t, x.sum, []byte(x.b), x.want)
	}
}

// P9.1: each byte, and each one behind another.
func TestP9_1Bytes(t *testing.T) {
	for a := range 256 {
		for _, sum := range sums() {
			wantUpdate(t, sum, []byte{byte(a)}, byRules(sum, []byte{byte(a)}))
		}
		for b := range 256 {
			l := []byte{byte(a), byte(b)}
			wantUpdate(t, 0, l, byRules(0, l))
		}
	}
}

// P9.1: any checksums and bytes, by the words of the chapter and by Go's library.
func TestP9_1Any(t *testing.T) {
	m := newMaker(1)
	for i := range 3000 {
		sum, b := m.Uint32(), m.bytes(m.Intn(1+i/20))
		wantUpdate(t, sum, b, byRules(sum, b))
		wantUpdate(t, sum, b, crc32.Update(sum, crc32.IEEETable, b))
		wantUpdate(t, 0, b, byRules(0, b))
	}
}

// P9.1 and R3: without bytes the checksum stays, for nil and an empty list.
func TestP9_1Empty(t *testing.T) {
	for _, sum := range sums() {
		wantUpdate(t, sum, nil, sum)
		wantUpdate(t, sum, []byte{}, sum)
		wantUpdate(t, sum, roomy(nil), sum)
	}
}

// R2: the bytes and what lies behind them stay, and what lies behind them does not count.
func TestP9_1Pure(t *testing.T) {
	m := newMaker(2)
	for range 500 {
		sum, b := m.Uint32(), m.bytes(m.Intn(40))
		l := roomy(b)
		before := string(l[:cap(l)])
		for range 2 {
			wantUpdate(t, sum, l, byRules(sum, b))
			wantUpdate(t, 0, l, byRules(0, b))
		}
		if string(l[:cap(l)]) != before {
			t.Fatalf("the bytes %q became %q", before, l[:cap(l)])
		}
	}
}

// R10: many bytes, in a time that grows with them.
func TestP9_1Long(t *testing.T) {
	b := newMaker(3).bytes(1 << 24)
	wantUpdate(t, 0, b, crc32.ChecksumIEEE(b))
	wantUpdate(t, 12345, b, crc32.Update(12345, crc32.IEEETable, b))
}

// P9.2: Of is Update from 0 on, for lists of each length.
func TestP9_2Of(t *testing.T) {
	m := newMaker(4)
	wantOf(t, nil, 0)
	wantOf(t, []byte{}, 0)
	for n := range 600 {
		b := m.bytes(n)
		wantOf(t, b, crc.Update(0, b))
		wantOf(t, b, crc32.ChecksumIEEE(b))
	}
}

// P9.3: a list in two parts, divided at each place.
func TestP9_3Parts(t *testing.T) {
	m := newMaker(5)
	for n := range 100 {
		b := m.bytes(n)
		for k := range n + 1 {
			wantUpdate(t, crc.Of(b[:k]), b[k:], crc.Of(b))
		}
	}
}

// P9.3: a list in many parts, also empty ones.
func TestP9_3Pieces(t *testing.T) {
	m := newMaker(6)
	for range 500 {
		b := m.bytes(m.Intn(200))
		sum, at := crc.Of(nil), 0
		for at < len(b) {
			next := min(at+m.Intn(20), len(b))
			sum = crc.Update(sum, b[at:next])
			at = next
		}
		wantOf(t, b, sum)
	}
}

// P9.3: the exclusive or of three lists of the same length.
func TestP9_3Three(t *testing.T) {
	m := newMaker(7)
	for i := range 2000 {
		n := i % 100
		x, y, z := m.bytes(n), m.bytes(n), m.bytes(n)
		want := crc.Of(x) ^ crc.Of(y) ^ crc.Of(z)
		wantOf(t, exclusive(exclusive(x, y), z), want)
	}
	x, y := m.bytes(9), m.bytes(9)
	wantOf(t, y, crc.Of(x)^crc.Of(x)^crc.Of(y))
}

// P9.3: all lists of two bytes in the middle of others have checksums of their own.
func TestP9_3Two(t *testing.T) {
	m := newMaker(8)
	for _, n := range []int{2, 3, 20} {
		b, at := m.bytes(n), m.Intn(n-1)
		seen := map[uint32]bool{}
		for i := range 1 << 16 {
			b[at], b[at+1] = byte(i), byte(i>>8)
			seen[crc.Of(b)] = true
		}
		if len(seen) != 1<<16 {
			t.Errorf("%d lists of %d bytes have %d checksums", 1<<16, n, len(seen))
		}
	}
}

// P9.3: damages within 32 bits, from each bit on, are seen.
func TestP9_3Damages(t *testing.T) {
	m := newMaker(9)
	for n := 1; n <= 20; n++ {
		b := m.bytes(n)
		for from := range 8 * n {
			room := min(32, 8*n-from)
			for range 50 {
				bits := m.Uint32()>>m.Intn(32)<<(32-room)>>(32-room) | 1
				if c := damaged(b, from, bits); crc.Of(c) == crc.Of(b) {
					t.Errorf("%q and %q have the same checksum", b, c)
				}
			}
		}
	}
}

// P9.3: no damages within 32 bits cancel each other: as checksums follow exclusive ors, it is enough that no bit's difference is the exclusive or of others.
func TestP9_3Independent(t *testing.T) {
	m := newMaker(10)
	for _, n := range []int{1, 2, 3, 4, 5, 8, 13, 64} {
		b := m.bytes(n)
		for from := range 8*n - min(32, 8*n) + 1 {
			var differences []uint32
			for i := range min(32, 8*n) {
				differences = append(differences, crc.Of(damaged(b, from+i, 1))^crc.Of(b))
			}
			if got := rank(differences); got != len(differences) {
				t.Errorf("of %d bytes, from the bit %d on: the rank of %d differences is %d", n, from, len(differences), got)
			}
		}
	}
}
