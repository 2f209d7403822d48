package crc_test

import (
	"bytes"
	"fmt"
	"math/rand"
)

// byRules is Update by the words of P9.1, with a truth for each bit, the lowest one first.
func byRules(sum uint32, b []byte) uint32 {
	s := bitsOf(sum)
	invert(&s)
	for _, c := range b {
		toggle(&s, uint32(c))
		for range 8 {
			out := s[0]
			copy(s[:], s[1:])
			s[31] = false
			if out {
				toggle(&s, 0xedb88320)
			}
		}
	}
	invert(&s)
	return number(s)
}

func bitsOf(v uint32) [32]bool {
	var s [32]bool
	toggle(&s, v)
	return s
}

func invert(s *[32]bool) {
	for i := range s {
		s[i] = !s[i]
	}
}

// toggle inverts the bits that a number has.
func toggle(s *[32]bool, v uint32) {
	for i := range s {
		s[i] = s[i] != (v>>i&1 == 1)
	}
}

func number(s [32]bool) uint32 {
	var v uint32
	for i, bit := range s {
		if bit {
			v += 1 << i
		}
	}
	return v
}

// sums returns checksums at the ends and with single bits.
func sums() []uint32 {
	l := []uint32{0, 0xffffffff, 0xedb88320, ^uint32(0xedb88320), 12345}
	for i := range 32 {
		l = append(l, 1<<i, ^uint32(1<<i))
	}
	return l
}

// short shows bytes, and of many ones only their number.
func short(b []byte) string {
	if len(b) > 100 {
		return fmt.Sprint(len(b), " bytes")
	}
	return fmt.Sprintf("%q", b)
}

// roomy copies bytes, with other ones in the memory behind them.
func roomy(b []byte) []byte {
	return append(bytes.Clone(b), "behind"...)[:len(b)]
}

// exclusive returns the exclusive or of two lists of the same length.
func exclusive(x, y []byte) []byte {
	l := bytes.Clone(x)
	for i := range l {
		l[i] ^= y[i]
	}
	return l
}

// damaged returns bytes of which some bits are inverted, from a bit on; the bits of a byte are numbered from the lowest one on.
func damaged(b []byte, from int, bits uint32) []byte {
	l := bytes.Clone(b)
	for i := range 32 {
		if bits>>i&1 == 1 {
			l[(from+i)/8] ^= 1 << ((from + i) % 8)
		}
	}
	return l
}

// rank returns how many of the numbers are no exclusive or of others that were counted.
func rank(l []uint32) int {
	var base [32]uint32
	count := 0
	for _, v := range l {
		for i := 31; i >= 0 && v != 0; i-- {
			if v>>i&1 == 0 {
				continue
			}
			if base[i] == 0 {
				base[i] = v
				count++
				v = 0
			} else {
				v ^= base[i]
			}
		}
	}
	return count
}

// maker makes bytes at random.
type maker struct{ *rand.Rand }

func newMaker(seed int64) maker { return maker{rand.New(rand.NewSource(seed))} }

// bytes returns n bytes: any ones, or mostly zeros, or mostly ones with all bits.
func (m maker) bytes(n int) []byte {
	b := make([]byte, n)
	m.Read(b)
	keep, set := [3]byte{255, 0, 255}, [3]byte{0, 0, 255}
	sort := m.Intn(3)
	for i := range b {
		if m.Intn(8) != 0 {
			b[i] = b[i]&keep[sort] | set[sort]
		}
	}
	return b
}
