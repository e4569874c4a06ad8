package leb_test

import (
	"bytes"
	"math"
	"math/big"
	"testing"

	"guipure/api"
	"guipure/leb"
	"guipure/octet"
)

// numbers: those about each power of 2.
func numbers() []uint64 {
	out := []uint64{0, 300, math.MaxUint64}
	for i := range 64 {
		p := uint64(1) << i
		out = append(out, p-1, p, p+1)
	}
	return out
}

// digits: a number's digits to the base 128, so many, the lowest one first, and 128 put to each but the last one.
func digits(n uint64, count int) []byte {
	out := make([]byte, count)
	for i := range out {
		out[i] = byte(n%128) + 128
		n /= 128
	}
	out[count-1] -= 128
	return out
}

// shortest: how many digits to the base 128 a number has.
func shortest(n uint64) int {
	count := 1
	for ; n >= 128; n /= 128 {
		count++
	}
	return count
}

// P2.1

func TestPutAndLen(t *testing.T) {
	for _, n := range numbers() {
		count := shortest(n)
		if leb.Len(n) != count {
			t.Errorf("Len(%d): %d, want %d", n, leb.Len(n), count)
		}
		want := append([]byte{0xaa, 0}, digits(n, count)...)
		if b := leb.Put([]byte{0xaa, 0}, n); !bytes.Equal(b, want) {
			t.Errorf("Put(%d): %v, want %v", n, b, want)
		}
	}
	if leb.MaxLen != 10 || leb.Len(math.MaxUint64) != 10 {
		t.Error("MaxLen")
	}
	if b := leb.Put(nil, 300); !bytes.Equal(b, []byte{172, 2}) {
		t.Errorf("Put(300): %v", b)
	}
}

func TestPad(t *testing.T) {
	for _, n := range numbers() {
		for count := -1; count <= 12; count++ {
			b, e := leb.Pad([]byte{1, 2}, n, count)
			if count < shortest(n) || count > 10 {
				if b != nil || e != api.ErrRange {
					t.Errorf("Pad(%d, %d): %v %v", n, count, b, e)
				}
				continue
			}
			if want := append([]byte{1, 2}, digits(n, count)...); e != api.OK || !bytes.Equal(b, want) {
				t.Errorf("Pad(%d, %d): %v %v, want %v", n, count, b, e, want)
			}
		}
	}
	for _, count := range []int{math.MinInt, math.MaxInt} {
		if b, e := leb.Pad(nil, 0, count); b != nil || e != api.ErrRange {
			t.Errorf("Pad(0, %d): %v %v", count, b, e)
		}
	}
}

func TestAnswersAreNewMemory(t *testing.T) {
	room := make([]byte, 16)
	b := leb.Put(room[:1], math.MaxUint64)
	p, _ := leb.Pad(room[:1], 1, 10)
	b[0], p[0] = 9, 9
	if !bytes.Equal(room, make([]byte, 16)) {
		t.Errorf("the bytes ahead were changed: %v", room)
	}
	one := leb.Put(nil, 1)
	two, three := leb.Put(one, 2), leb.Put(one, 3)
	if !bytes.Equal(two, []byte{1, 2}) || !bytes.Equal(three, []byte{1, 3}) {
		t.Errorf("two answers share memory: %v %v", two, three)
	}
}

// P2.2

// model: what P2.2 says of the bytes at the front of b: the number, how many bytes it has, and the error.
func model(b []byte, lenient bool) (uint64, int, api.Errno) {
	sum := new(big.Int)
	for i := 0; ; i++ {
		if i == len(b) {
			return 0, 0, api.ErrEnd
		}
		if i == 9 && b[i] > 1 {
			return 0, 0, api.ErrVar
		}
		part := big.NewInt(int64(b[i] % 128))
		sum.Add(sum, part.Lsh(part, uint(7*i)))
		if b[i] >= 128 {
			continue
		}
		if b[i] == 0 && i > 0 && !lenient {
			return 0, 0, api.ErrCanon
		}
		return sum.Uint64(), i + 1, api.OK
	}
}

// inputs: bytes of many sorts, up to twelve.
func inputs() [][]byte {
	var out [][]byte
	for last := range 256 {
		for count := range 12 {
			for _, ahead := range []byte{0x80, 0x81, 0xff} {
				b := append(bytes.Repeat([]byte{ahead}, count), byte(last))
				out = append(out, b, append(bytes.Clone(b), 0), append(bytes.Clone(b), 5, 6))
			}
		}
	}
	for first := range 256 {
		for second := range 256 {
			out = append(out, []byte{byte(first), byte(second), 3})
		}
	}
	for _, n := range numbers() {
		for count := shortest(n); count <= 10; count++ {
			out = append(out, append(digits(n, count), 0xff))
		}
	}
	return append(out, nil, []byte{0x80}, bytes.Repeat([]byte{0x80}, 9), bytes.Repeat([]byte{0xff}, 9))
}

func TestRead(t *testing.T) {
	for _, b := range inputs() {
		for _, lenient := range []bool{false, true} {
			n, count, e := model(b, lenient)
			r := octet.New(append([]byte{0x80}, b...)) // what was read ahead has no part in it
			r.Skip(1)
			got, ge := leb.Read(r, lenient)
			if got != n || ge != e || r.At() != 1+count || r.Left() != len(b)-count {
				t.Fatalf("Read of %v, %t: %d %v, %d read; want %d %v, %d", b, lenient, got, ge, r.At()-1, n, e, count)
			}
		}
	}
}

func TestReadNamedCases(t *testing.T) {
	tens := func(last byte) []byte { return append(bytes.Repeat([]byte{0x80}, 9), last) }
	wants := []struct {
		b       []byte
		lenient bool
		n       uint64
		e       api.Errno
	}{
		{[]byte{172, 2}, false, 300, api.OK},
		{[]byte{0}, false, 0, api.OK},
		{[]byte{128, 0}, false, 0, api.ErrCanon},
		{[]byte{128, 0}, true, 0, api.OK},
		{[]byte{128}, true, 0, api.ErrEnd},
		{nil, true, 0, api.ErrEnd},
		{tens(0), false, 0, api.ErrCanon},
		{tens(0), true, 0, api.OK},
		{tens(1), false, 1 << 63, api.OK},
		{tens(2), true, 0, api.ErrVar},
		{tens(0x80), true, 0, api.ErrVar},
	}
	for _, w := range wants {
		r := octet.New(w.b)
		n, e := leb.Read(r, w.lenient)
		at := 0
		if w.e == api.OK {
			at = len(w.b)
		}
		if n != w.n || e != w.e || r.At() != at {
			t.Errorf("Read of %v, %t: %d %v, %d read; want %d %v", w.b, w.lenient, n, e, r.At(), w.n, w.e)
		}
	}
}

func TestReadOneBehindTheOther(t *testing.T) {
	var b []byte
	for _, n := range numbers() {
		b = leb.Put(b, n)
	}
	r := octet.New(b)
	for _, n := range numbers() {
		if got, e := leb.Read(r, false); got != n || e != api.OK {
			t.Fatalf("%d %v, want %d", got, e, n)
		}
	}
	if r.Left() != 0 {
		t.Errorf("%d left", r.Left())
	}
}

// P2.3

// A meter tells step by step what Read tells of all.
func TestMeterGoesAsReadDoes(t *testing.T) {
	for _, b := range inputs() {
		for _, lenient := range []bool{false, true} {
			n, count, want := model(b, lenient)
			m := leb.Meter{Lenient: lenient}
			for i := 0; ; i++ {
				if i == len(b) {
					if want != api.ErrEnd {
						t.Fatalf("%v, %t: it goes on beyond the end", b, lenient)
					}
					break
				}
				last, e := m.Step(b[i])
				if e != api.OK {
					if last || e != want {
						t.Fatalf("%v, %t: step %d: %t %v, want %v", b, lenient, i, last, e, want)
					}
					break
				}
				if last {
					if want != api.OK || i+1 != count || m.Value() != n || m.Count() != count {
						t.Fatalf("%v, %t: %d of %d bytes, want %d of %d", b, lenient, m.Value(), m.Count(), n, count)
					}
					break
				}
			}
		}
	}
}

func TestMeterSoFar(t *testing.T) {
	var m leb.Meter
	if m.Value() != 0 || m.Count() != 0 {
		t.Errorf("of no bytes: %d %d", m.Value(), m.Count())
	}
	b := []byte{0xff, 0x80, 0x83, 0x80, 0x90, 0xff, 0x80, 0x80, 0xc0, 1}
	sum := new(big.Int)
	for i, c := range b {
		part := big.NewInt(int64(c % 128))
		sum.Add(sum, part.Lsh(part, uint(7*i)))
		if last, e := m.Step(c); last != (i == 9) || e != api.OK {
			t.Errorf("step %d: %t %v", i, last, e)
		}
		if m.Value() != sum.Uint64() || m.Count() != i+1 {
			t.Errorf("step %d: %d %d, want %d", i, m.Value(), m.Count(), sum)
		}
	}
	for _, c := range []byte{0, 1, 2, 128, 255} {
		if last, e := m.Step(c); last || e != api.ErrVar {
			t.Errorf("an eleventh byte %d: %t %v", c, last, e)
		}
	}
}

func TestMeterRefuses(t *testing.T) {
	for _, lenient := range []bool{false, true} {
		for c := range 256 {
			m := leb.Meter{Lenient: lenient}
			for range 9 {
				if last, e := m.Step(0x80); last || e != api.OK {
					t.Fatalf("Step: %t %v", last, e)
				}
			}
			want, wantLast := api.OK, true
			switch {
			case c > 1:
				want, wantLast = api.ErrVar, false
			case c == 0 && !lenient:
				want, wantLast = api.ErrCanon, false
			}
			if last, e := m.Step(byte(c)); last != wantLast || e != want {
				t.Errorf("tenth byte %d, %t: %t %v, want %t %v", c, lenient, last, e, wantLast, want)
			}
		}
	}
}

// P2.4

func TestFold(t *testing.T) {
	two := big.NewInt(2)
	for _, u := range numbers() {
		for _, n := range []int64{int64(u), -int64(u)} {
			want := new(big.Int).Mul(two, new(big.Int).Abs(big.NewInt(n)))
			if n < 0 {
				want.Sub(want, big.NewInt(1))
			}
			if got := leb.Fold(n); got != want.Uint64() {
				t.Errorf("Fold(%d): %d, want %d", n, got, want)
			}
			if back := leb.Unfold(leb.Fold(n)); back != n {
				t.Errorf("Unfold of the Fold of %d: %d", n, back)
			}
		}
		if back := leb.Fold(leb.Unfold(u)); back != u {
			t.Errorf("Fold of the Unfold of %d: %d", u, back)
		}
	}
	for n, want := range map[int64]uint64{-2: 3, 0: 0, -1: 1, 1: 2, 2: 4, math.MaxInt64: math.MaxUint64 - 1, math.MinInt64: math.MaxUint64} {
		if leb.Fold(n) != want || leb.Unfold(want) != n {
			t.Errorf("%d: %d, and back %d; want %d", n, leb.Fold(n), leb.Unfold(want), want)
		}
	}
}
