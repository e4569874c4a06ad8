package octet_test

import (
	"bytes"
	"math"
	"math/big"
	"testing"

	"guipure/api"
	"guipure/octet"
)

// bytesUpTo: 1, 2, 3 .., so many.
func bytesUpTo(n int) []byte {
	b := make([]byte, n)
	for i := range b {
		b[i] = byte(i + 1)
	}
	return b
}

// reversed: the same bytes, the last one first.
func reversed(b []byte) []byte {
	out := bytes.Clone(b)
	for i, c := range b {
		out[len(b)-1-i] = c
	}
	return out
}

// wantPlace tells if a reader isn't where it should be.
func wantPlace(t *testing.T, r *octet.Reader, at, left int) {
	t.Helper()
	if r.At() != at || r.Left() != left {
		t.Errorf("at %d, %d left; want %d, %d", r.At(), r.Left(), at, left)
	}
}

// P1.1

func TestReaderByteByByte(t *testing.T) {
	for n := range 5 {
		b := bytesUpTo(n)
		r := octet.New(b)
		for i, want := range b {
			wantPlace(t, r, i, n-i)
			for range 2 { // to look at a byte doesn't read it
				if c, ok := r.Peek(); c != want || !ok {
					t.Errorf("Peek at %d: %d %t", i, c, ok)
				}
			}
			wantPlace(t, r, i, n-i)
			if c, e := r.Byte(); c != want || e != api.OK {
				t.Errorf("Byte at %d: %d %v", i, c, e)
			}
		}
		for range 2 {
			wantPlace(t, r, n, 0)
			if c, ok := r.Peek(); c != 0 || ok {
				t.Errorf("Peek at the end: %d %t", c, ok)
			}
			if c, e := r.Byte(); c != 0 || e != api.ErrEnd {
				t.Errorf("Byte at the end: %d %v", c, e)
			}
		}
	}
}

func TestReaderTakeAndSkip(t *testing.T) {
	wants := []struct {
		n int
		e api.Errno
	}{
		{math.MinInt, api.ErrRange}, {-1, api.ErrRange}, {0, api.OK}, {1, api.OK}, {3, api.OK},
		{4, api.OK}, {5, api.ErrEnd}, {math.MaxInt, api.ErrEnd},
	}
	for _, w := range wants {
		taking, skipping := octet.New(bytesUpTo(6)), octet.New(bytesUpTo(6))
		for _, r := range []*octet.Reader{taking, skipping} {
			if e := r.Skip(2); e != api.OK {
				t.Fatalf("Skip(2): %v", e)
			}
		}
		var want []byte
		at := 2
		if w.e == api.OK {
			at += w.n
			want = bytesUpTo(6)[2:at]
		}
		b, e := taking.Take(w.n)
		if e != w.e || !bytes.Equal(b, want) || e != api.OK && b != nil {
			t.Errorf("Take(%d): %v %v, want %v %v", w.n, b, e, want, w.e)
		}
		if e := skipping.Skip(w.n); e != w.e {
			t.Errorf("Skip(%d): %v, want %v", w.n, e, w.e)
		}
		wantPlace(t, taking, at, 6-at)
		wantPlace(t, skipping, at, 6-at)
	}
}

func TestReaderOfNothing(t *testing.T) {
	r := octet.New(nil)
	if b, e := r.Take(0); len(b) != 0 || e != api.OK {
		t.Errorf("Take(0): %v %v", b, e)
	}
	if e := r.Skip(0); e != api.OK {
		t.Errorf("Skip(0): %v", e)
	}
	if e := r.Skip(-1); e != api.ErrRange { // ahead of ErrEnd
		t.Errorf("Skip(-1): %v", e)
	}
	if e := r.Skip(1); e != api.ErrEnd {
		t.Errorf("Skip(1): %v", e)
	}
	wantPlace(t, r, 0, 0)
}

// What is taken is the taker's: rule 4 holds both ways, and spare room isn't read.
func TestReaderTakesCopies(t *testing.T) {
	kept := bytesUpTo(8)
	r := octet.New(kept[:4])
	b, _ := r.Take(2)
	b[0] = 99
	_ = append(b, 99, 99, 99)
	if !bytes.Equal(kept, bytesUpTo(8)) {
		t.Errorf("the reader's bytes were changed: %v", kept)
	}
	again, _ := r.Take(2)
	if !bytes.Equal(again, []byte{3, 4}) {
		t.Errorf("Take(2): %v", again)
	}
	if _, e := r.Byte(); e != api.ErrEnd {
		t.Errorf("Byte behind the end: %v", e)
	}
}

// P1.2

func TestWidthAndMost(t *testing.T) {
	for _, n := range []int{math.MinInt, -8, -1, 0, 9, 64, math.MaxInt} {
		if octet.Width(n) || octet.Most(n) != 0 {
			t.Errorf("%d: %t %d", n, octet.Width(n), octet.Most(n))
		}
	}
	if octet.MaxWidth != 8 {
		t.Errorf("MaxWidth: %d", octet.MaxWidth)
	}
	for n := 1; n <= 8; n++ {
		most := new(big.Int).Exp(big.NewInt(256), big.NewInt(int64(n)), nil)
		most.Sub(most, big.NewInt(1))
		if !octet.Width(n) || octet.Most(n) != most.Uint64() {
			t.Errorf("%d: %t %d", n, octet.Width(n), octet.Most(n))
		}
	}
}

func TestOf(t *testing.T) {
	b := []byte{0x81, 2, 0xf3, 4, 5, 0, 0xff, 8, 9, 10}
	for n := range len(b) + 1 {
		first := b[:min(n, 8)]
		if got, want := octet.Of(b[:n], false), new(big.Int).SetBytes(first).Uint64(); got != want {
			t.Errorf("Of %d bytes: %d, want %d", n, got, want)
		}
		if got, want := octet.Of(b[:n], true), new(big.Int).SetBytes(reversed(first)).Uint64(); got != want {
			t.Errorf("Of %d bytes, the lowest first: %d, want %d", n, got, want)
		}
	}
	if octet.Of(nil, false) != 0 || octet.Of(nil, true) != 0 {
		t.Error("Of no bytes")
	}
}

func TestReaderNumber(t *testing.T) {
	b := []byte{0x81, 2, 0xf3, 4, 5, 0, 0xff, 8, 9, 10}
	for width := 1; width <= 8; width++ {
		for _, little := range []bool{false, true} {
			r := octet.New(b)
			r.Skip(1)
			if n, e := r.Number(width, little); n != octet.Of(b[1:1+width], little) || e != api.OK {
				t.Errorf("Number(%d, %t): %d %v", width, little, n, e)
			}
			wantPlace(t, r, 1+width, 9-width)
		}
	}
}

func TestReaderNumberIsRefused(t *testing.T) {
	for _, little := range []bool{false, true} {
		r := octet.New(bytesUpTo(9))
		for _, width := range []int{math.MinInt, -1, 0, 9, math.MaxInt} {
			if n, e := r.Number(width, little); n != 0 || e != api.ErrRange {
				t.Errorf("Number(%d): %d %v", width, n, e)
			}
		}
		wantPlace(t, r, 0, 9)
		r.Skip(6)
		if n, e := r.Number(4, little); n != 0 || e != api.ErrEnd {
			t.Errorf("Number beyond the end: %d %v", n, e)
		}
		if n, e := r.Number(9, little); n != 0 || e != api.ErrRange { // ahead of ErrEnd
			t.Errorf("Number of no width, beyond the end: %d %v", n, e)
		}
		wantPlace(t, r, 6, 3)
	}
}

// P1.3

func TestPut(t *testing.T) {
	for width := 1; width <= 8; width++ {
		most := octet.Most(width)
		for _, n := range []uint64{0, 1, most / 3, most / 2, most/2 + 1, most - 1, most} {
			high := make([]byte, width)
			new(big.Int).SetUint64(n).FillBytes(high)
			wants := map[bool][]byte{false: high, true: reversed(high)}
			for little, want := range wants {
				b, e := octet.Put([]byte{7, 8}, n, width, little)
				if e != api.OK || !bytes.Equal(b, append([]byte{7, 8}, want...)) {
					t.Errorf("Put(%d, %d, %t): %v %v", n, width, little, b, e)
				}
				if octet.Of(b[2:], little) != n {
					t.Errorf("Of what Put wrote: %v", b)
				}
			}
		}
	}
}

func TestPutIsRefused(t *testing.T) {
	for _, little := range []bool{false, true} {
		for _, width := range []int{math.MinInt, -1, 0, 9, math.MaxInt} {
			for _, n := range []uint64{0, math.MaxUint64} { // ErrRange is ahead of ErrOver
				if b, e := octet.Put([]byte{1}, n, width, little); b != nil || e != api.ErrRange {
					t.Errorf("Put(%d, %d): %v %v", n, width, b, e)
				}
			}
		}
		for width := 1; width < 8; width++ {
			for _, n := range []uint64{octet.Most(width) + 1, math.MaxUint64} {
				if b, e := octet.Put([]byte{1}, n, width, little); b != nil || e != api.ErrOver {
					t.Errorf("Put(%d, %d): %v %v", n, width, b, e)
				}
			}
		}
	}
}

func TestPutAnswersNewMemory(t *testing.T) {
	room := bytesUpTo(12)
	b, _ := octet.Put(room[:2], 0xffff, 2, false)
	b[0] = 99
	if !bytes.Equal(room, bytesUpTo(12)) {
		t.Errorf("the bytes ahead were changed: %v", room)
	}
	one, _ := octet.Put(nil, 1, 1, false)
	two, _ := octet.Put(one, 2, 1, false)
	three, _ := octet.Put(one, 3, 1, false)
	if !bytes.Equal(two, []byte{1, 2}) || !bytes.Equal(three, []byte{1, 3}) {
		t.Errorf("two answers share memory: %v %v", two, three)
	}
}

// P1.4

// wantBytes tells if a writer has other bytes than it should.
func wantBytes(t *testing.T, w *octet.Writer, want ...byte) {
	t.Helper()
	if b := w.Bytes(); !bytes.Equal(b, want) || w.Len() != len(want) {
		t.Errorf("written: %v, %d; want %v", b, w.Len(), want)
	}
}

func TestWriterAdd(t *testing.T) {
	w := octet.Write(5)
	wantBytes(t, w)
	steps := []struct {
		add  []byte
		e    api.Errno
		want []byte
	}{
		{nil, api.OK, nil},
		{[]byte{1, 2}, api.OK, []byte{1, 2}},
		{[]byte{3, 4, 5, 6}, api.ErrLong, []byte{1, 2}},
		{[]byte{3}, api.OK, []byte{1, 2, 3}},
		{[]byte{4, 5}, api.OK, []byte{1, 2, 3, 4, 5}},
		{[]byte{6}, api.ErrLong, []byte{1, 2, 3, 4, 5}},
		{nil, api.OK, []byte{1, 2, 3, 4, 5}},
	}
	for _, s := range steps {
		if e := w.Add(s.add...); e != s.e {
			t.Errorf("Add(%v): %v, want %v", s.add, e, s.e)
		}
		wantBytes(t, w, s.want...)
	}
}

func TestWriterOfAnyMost(t *testing.T) {
	for _, most := range []int{math.MinInt, -1, 0} {
		w := octet.Write(most)
		if e := w.Add(); e != api.OK {
			t.Errorf("most %d: Add of nothing: %v", most, e)
		}
		if e := w.Add(1); e != api.ErrLong {
			t.Errorf("most %d: Add: %v", most, e)
		}
		wantBytes(t, w)
	}
	w := octet.Write(math.MaxInt)
	if e := w.Add(1, 2, 3); e != api.OK {
		t.Errorf("Add: %v", e)
	}
	wantBytes(t, w, 1, 2, 3)
}

func TestWriterNumber(t *testing.T) {
	w := octet.Write(6)
	steps := []struct {
		n      uint64
		width  int
		little bool
		e      api.Errno
		want   []byte
	}{
		{1, 0, false, api.ErrRange, nil},
		{1, 9, false, api.ErrRange, nil},
		{256, 1, false, api.ErrOver, nil},
		{0x0102, 2, false, api.OK, []byte{1, 2}},
		{0x030405, 3, true, api.OK, []byte{1, 2, 5, 4, 3}},
		{6, 2, false, api.ErrLong, []byte{1, 2, 5, 4, 3}},
		{65536, 2, true, api.ErrOver, []byte{1, 2, 5, 4, 3}},   // ahead of ErrLong
		{65536, -1, true, api.ErrRange, []byte{1, 2, 5, 4, 3}}, // ahead of both
		{255, 1, true, api.OK, []byte{1, 2, 5, 4, 3, 255}},
	}
	for _, s := range steps {
		if e := w.Number(s.n, s.width, s.little); e != s.e {
			t.Errorf("Number(%d, %d, %t): %v, want %v", s.n, s.width, s.little, e, s.e)
		}
		wantBytes(t, w, s.want...)
	}
}

func TestWriterSet(t *testing.T) {
	wants := []struct {
		at   int
		b    []byte
		e    api.Errno
		want []byte
	}{
		{0, []byte{9}, api.OK, []byte{9, 2, 3, 4}},
		{1, []byte{9, 8}, api.OK, []byte{1, 9, 8, 4}},
		{3, []byte{9}, api.OK, []byte{1, 2, 3, 9}},
		{0, []byte{9, 8, 7, 6}, api.OK, []byte{9, 8, 7, 6}},
		{4, nil, api.OK, []byte{1, 2, 3, 4}},
		{2, nil, api.OK, []byte{1, 2, 3, 4}},
		{4, []byte{9}, api.ErrRange, []byte{1, 2, 3, 4}},
		{3, []byte{9, 8}, api.ErrRange, []byte{1, 2, 3, 4}},
		{0, []byte{9, 8, 7, 6, 5}, api.ErrRange, []byte{1, 2, 3, 4}},
		{5, nil, api.ErrRange, []byte{1, 2, 3, 4}},
		{-1, nil, api.ErrRange, []byte{1, 2, 3, 4}},
		{-1, []byte{9}, api.ErrRange, []byte{1, 2, 3, 4}},
		{math.MinInt, []byte{9}, api.ErrRange, []byte{1, 2, 3, 4}},
		{math.MaxInt, []byte{9}, api.ErrRange, []byte{1, 2, 3, 4}},
	}
	for _, s := range wants {
		w := octet.Write(8) // there is room, but Set writes nothing more
		w.Add(1, 2, 3, 4)
		if e := w.Set(s.at, s.b...); e != s.e {
			t.Errorf("Set(%d, %v): %v, want %v", s.at, s.b, e, s.e)
		}
		wantBytes(t, w, s.want...)
	}
}

// What is handed in isn't kept, and what is answered isn't shared.
func TestWriterKeepsCopies(t *testing.T) {
	w := octet.Write(100)
	b := bytesUpTo(3)
	w.Add(b...)
	b[0] = 99
	wantBytes(t, w, 1, 2, 3)
	out := w.Bytes()
	out[1] = 99
	_ = append(out, 99)
	w.Add(4)
	wantBytes(t, w, 1, 2, 3, 4)
	b = []byte{7, 8}
	w.Set(0, b...)
	b[1] = 99
	wantBytes(t, w, 7, 8, 3, 4)
	if !bytes.Equal(out, []byte{1, 99, 3}) {
		t.Errorf("an answer was changed: %v", out)
	}
}
