// Package leb reads and writes numbers of seven bits a byte: the lowest ones first, the highest bit of each byte tells whether there is one more.
package leb

import (
	"math/bits"

	"guipure/api"
	"guipure/octet"
)

// MaxLen is how many bytes a number has at most.
const MaxLen = 10

const (
	digit = 7    // how many bits of a number a byte has
	more  = 0x80 // the bit that tells of one more byte
)

// Meter takes a number's bytes, one by one.
type Meter struct {
	Lenient bool // it may be longer than it must
	value   uint64
	count   int
}

// Step: one byte more: is it the last one? With an error it isn't taken.
func (m *Meter) Step(c byte) (bool, api.Errno) {
	// Nine bytes hold 63 bits of 64, so the tenth has room for a single one.
	if m.count >= MaxLen || m.count == MaxLen-1 && c > 1 {
		return false, api.ErrVar
	}
	if c == 0 && m.count > 0 && !m.Lenient {
		return false, api.ErrCanon
	}
	m.value |= uint64(c&^more) << (digit * m.count)
	m.count++
	return c < more, api.OK
}

// Value: the number so far.
func (m *Meter) Value() uint64 { return m.value }

// Count: how many bytes there are so far.
func (m *Meter) Count() int { return m.count }

// Read: the next number of a reader, which is read; with an error nothing is.
func Read(r *octet.Reader, lenient bool) (uint64, api.Errno) {
	ahead := *r // it reads on by itself: r stays where it is till the number is known to be right
	m := Meter{Lenient: lenient}
	for {
		c, e := ahead.Byte()
		if e != api.OK {
			return 0, e
		}
		last, e := m.Step(c)
		if e != api.OK {
			return 0, e
		}
		if last {
			return m.Value(), r.Skip(m.Count())
		}
	}
}

// Len: how many bytes a number has, if it has as few as can be.
func Len(n uint64) int {
	// Even 0 has a byte.
	return (bits.Len64(n|1) + digit - 1) / digit
}

// Put: bytes, and behind them a number, in as few bytes as can be.
func Put(to []byte, n uint64) []byte { return put(to, n, Len(n)) }

// Pad: bytes, and behind them a number in just so many bytes.
func Pad(to []byte, n uint64, count int) ([]byte, api.Errno) {
	if count < Len(n) || count > MaxLen {
		return nil, api.ErrRange
	}
	return put(to, n, count), api.OK
}

// put: bytes, and behind them a number's lowest digits, so many.
func put(to []byte, n uint64, count int) []byte {
	out := make([]byte, len(to)+count)
	copy(out, to)
	for i := range count {
		out[len(to)+i] = byte(n>>(digit*i)) | more
	}
	out[len(out)-1] &^= more
	return out
}

// Fold: a number with a sign as one without: 0, -1, 1, -2, 2 are 0, 1, 2, 3, 4.
func Fold(n int64) uint64 {
	// The second part is all ones below 0, and nothing else.
	return uint64(n)<<1 ^ uint64(n>>63)
}

// Unfold: and back.
func Unfold(n uint64) int64 { return int64(n>>1) ^ -int64(n&1) }
