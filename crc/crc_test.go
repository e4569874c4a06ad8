package crc_test

import (
	"bytes"
	"hash/crc32"
	"math"
	"sync"
	"testing"

	"guipure/crc"
)

// some: bytes that look like chance, so many, another row for each seed.
func some(n int, seed uint32) []byte {
	b := make([]byte, n)
	for i := range b {
		seed = seed*1664525 + 1013904223
		b[i] = byte(seed >> 24)
	}
	return b
}

// inputs: bytes of many sorts.
func inputs() [][]byte {
	out := [][]byte{nil, []byte("123456789"), []byte("IEND")}
	for c := range 256 {
		out = append(out, []byte{byte(c)}, []byte{0, byte(c)}, []byte{byte(c), 0xff})
	}
	for n := range 70 {
		out = append(out, some(n, uint32(n)), make([]byte, n), bytes.Repeat([]byte{0xff}, n))
	}
	return append(out, some(5000, 7))
}

// divided: what P3.1 says: bit by bit, with nothing of a table, or of remainders that are told the other way round.
func divided(b []byte) uint32 {
	var row []bool
	for _, c := range b {
		for i := range 8 {
			row = append(row, c>>i&1 == 1)
		}
	}
	row = append(row, make([]bool, 32)...)
	for i := range 32 {
		row[i] = !row[i]
	}
	for at := range len(b) * 8 {
		if row[at] {
			for _, power := range []int{32, 26, 23, 22, 16, 12, 11, 10, 8, 7, 5, 4, 2, 1, 0} {
				row[at+32-power] = !row[at+32-power]
			}
		}
	}
	var n uint32
	for i, bit := range row[len(row)-32:] {
		if !bit {
			n |= 1 << i
		}
	}
	return n
}

// highFirst: a number's four bytes.
func highFirst(n uint32) []byte {
	return []byte{byte(n >> 24), byte(n >> 16), byte(n >> 8), byte(n)}
}

// P3.1

func TestNamedChecksums(t *testing.T) {
	var table crc.Table
	for s, want := range map[string]uint32{"": 0, "123456789": 3421780262, "\x00": 0xd202ef8d, "\x00\x00\x00\x00": 0x2144df1c, "\xff\xff\xff\xff": 0xffffffff, "IEND": 0xae426082} {
		if got := table.Of([]byte(s)...); got != want {
			t.Errorf("Of %q: %#x, want %#x", s, got, want)
		}
		if got := table.Add(crc.Start(), []byte(s)...).Value(); got != want {
			t.Errorf("Add of %q: %#x, want %#x", s, got, want)
		}
	}
	if n := crc.Start().Value(); n != 0 {
		t.Errorf("of no bytes: %d", n)
	}
}

func TestOfIsWhatIsLeft(t *testing.T) {
	var table crc.Table
	for _, b := range inputs() {
		want := divided(b)
		if usual := crc32.ChecksumIEEE(b); want != usual {
			t.Fatalf("the test's own: %#x, want %#x", want, usual)
		}
		if got := table.Of(b...); got != want {
			t.Errorf("Of %x: %#x, want %#x", b, got, want)
		}
	}
}

func TestAddInPieces(t *testing.T) {
	var table crc.Table
	b := some(40, 3)
	want := divided(b)
	for i := range len(b) + 1 {
		first := table.Add(crc.Start(), b[:i]...)
		if first.Value() != divided(b[:i]) {
			t.Errorf("the first %d: %#x", i, first.Value())
		}
		for j := i; j <= len(b); j++ {
			sum := table.Add(table.Add(first, b[i:j]...), b[j:]...)
			if sum.Value() != want {
				t.Errorf("in pieces at %d, %d: %#x, want %#x", i, j, sum.Value(), want)
			}
		}
	}
	sum := crc.Start()
	for i, c := range b {
		sum = table.Add(sum, c)
		if sum.Value() != divided(b[:i+1]) {
			t.Errorf("byte by byte, %d: %#x", i, sum.Value())
		}
	}
}

// A sum stays what it was when another one is made of it, and any table may go on with it.
func TestSumsStay(t *testing.T) {
	var one, other crc.Table
	ahead := one.Add(crc.Start(), 1, 2, 3)
	left, right := one.Add(ahead, 4), other.Add(ahead, 5)
	if ahead.Value() != divided([]byte{1, 2, 3}) || left.Value() != divided([]byte{1, 2, 3, 4}) || right.Value() != divided([]byte{1, 2, 3, 5}) {
		t.Errorf("%#x %#x %#x", ahead.Value(), left.Value(), right.Value())
	}
	if again := one.Add(ahead); again.Value() != ahead.Value() {
		t.Errorf("of no bytes more: %#x, want %#x", again.Value(), ahead.Value())
	}
}

// P3.2

// wantCounts tells if a table was not made so often, or not so many bytes were put to sums by it.
func wantCounts(t *testing.T, what string, table *crc.Table, made int, count uint64) {
	t.Helper()
	if table.Made() != made || table.Bytes() != count {
		t.Errorf("%s: made %d, %d bytes; want %d, %d", what, table.Made(), table.Bytes(), made, count)
	}
}

func TestMadeByTheFirstAdd(t *testing.T) {
	sealed := append([]byte{7}, highFirst(divided([]byte{7}))...)
	wants := []struct {
		what  string
		do    func(table *crc.Table)
		made  int
		count uint64
	}{
		{"nothing", func(*crc.Table) {}, 0, 0},
		{"Made and Bytes", func(table *crc.Table) { _, _ = table.Made(), table.Bytes() }, 0, 0},
		{"Start, Value and Join", func(*crc.Table) { crc.Join(crc.Start().Value(), 0, 3) }, 0, 0},
		{"Add", func(table *crc.Table) { table.Add(crc.Start(), 1, 2) }, 1, 2},
		{"Add of nothing", func(table *crc.Table) { table.Add(crc.Start()) }, 1, 0},
		{"Of", func(table *crc.Table) { table.Of(1, 2, 3) }, 1, 3},
		{"Of nothing", func(table *crc.Table) { table.Of() }, 1, 0},
		{"Seal", func(table *crc.Table) { table.Seal(1, 2, 3, 4, 5) }, 1, 5},
		{"Open", func(table *crc.Table) { table.Open(sealed...) }, 1, 1},
		{"Open of wrong bytes", func(table *crc.Table) { table.Open(1, 2, 3, 4, 5, 6) }, 1, 2},
		{"Open of too few", func(table *crc.Table) { table.Open(1, 2, 3) }, 0, 0},
	}
	for _, w := range wants {
		var table crc.Table
		wantCounts(t, "ahead of "+w.what, &table, 0, 0)
		w.do(&table)
		wantCounts(t, w.what, &table, w.made, w.count)
		w.do(&table)
		wantCounts(t, w.what+", twice", &table, w.made, 2*w.count)
	}
}

func TestTablesCountAlone(t *testing.T) {
	var one, other crc.Table
	one.Of(1, 2, 3)
	wantCounts(t, "the other one", &other, 0, 0)
	other.Of(some(100, 1)...)
	wantCounts(t, "the other one", &other, 1, 100)
	wantCounts(t, "the one", &one, 1, 3)
}

func TestMadeOnceByManyAtOnce(t *testing.T) {
	var table crc.Table
	var all sync.WaitGroup
	b := some(300, 9)
	want := divided(b)
	for range 16 {
		all.Go(func() {
			for range 50 {
				if got := table.Of(b...); got != want || table.Made() != 1 {
					t.Errorf("%#x, made %d", got, table.Made())
				}
			}
		})
	}
	all.Wait()
	wantCounts(t, "of sixteen", &table, 1, 16*50*300)
}

// P3.3

func TestJoinAtEachPlace(t *testing.T) {
	for _, b := range [][]byte{[]byte("123456789"), some(100, 5), make([]byte, 40), bytes.Repeat([]byte{0xff}, 40)} {
		for i := range len(b) + 1 {
			if got := crc.Join(divided(b[:i]), divided(b[i:]), len(b)-i); got != divided(b) {
				t.Errorf("Join of %x at %d: %#x, want %#x", b, i, got, divided(b))
			}
		}
	}
}

func TestJoinOfLongPieces(t *testing.T) {
	b := some(3<<20, 11)
	for _, i := range []int{0, 1, 255, 256, 1 << 20, 1<<20 + 1, len(b) - 65537} {
		if got, want := crc.Join(crc32.ChecksumIEEE(b[:i]), crc32.ChecksumIEEE(b[i:]), len(b)-i), crc32.ChecksumIEEE(b); got != want {
			t.Errorf("Join at %d: %#x, want %#x", i, got, want)
		}
	}
}

// Three pieces are the same whichever two are joined first, however long they are told to be.
func TestJoinOfThree(t *testing.T) {
	longs := []int{1, 2, 3, 1000, 1<<31 - 1, 1 << 40, math.MaxInt / 2}
	for _, second := range longs {
		for _, third := range longs {
			const a, b, c = 0x12345678, 0xdeadbeef, 0x0badf00d
			left := crc.Join(crc.Join(a, b, second), c, third)
			right := crc.Join(a, crc.Join(b, c, third), second+third)
			if left != right {
				t.Errorf("%d, %d: %#x and %#x", second, third, left, right)
			}
		}
	}
}

func TestJoinOfNothing(t *testing.T) {
	for _, a := range []uint32{0, 1, 0xcbf43926, math.MaxUint32} {
		for _, long := range []int{0, -1, -8, math.MinInt} {
			if got := crc.Join(a, 0, long); got != a {
				t.Errorf("Join of %#x and %d bytes: %#x", a, long, got)
			}
			if got, none := crc.Join(a, 77, long), crc.Join(a, 77, 0); got != none {
				t.Errorf("Join of %#x and %d bytes: %#x, of none %#x", a, long, got, none)
			}
		}
	}
	for _, long := range []int{1, 9, math.MaxInt} {
		if got := crc.Join(0, 0xcbf43926, long); got != 0xcbf43926 {
			t.Errorf("Join of nothing and %d bytes: %#x", long, got)
		}
	}
}

// P3.4

func TestSealAndOpen(t *testing.T) {
	var table crc.Table
	for _, b := range inputs() {
		want := append(bytes.Clone(b), highFirst(divided(b))...)
		sealed := table.Seal(b...)
		if !bytes.Equal(sealed, want) {
			t.Errorf("Seal of %x: %x, want %x", b, sealed, want)
		}
		if got, ok := table.Open(want...); !ok || !bytes.Equal(got, b) {
			t.Errorf("Open of %x: %x %t", want, got, ok)
		}
	}
	if b := table.Seal([]byte("123456789")...); string(b) != "123456789\xcb\xf4\x39\x26" {
		t.Errorf("Seal: %x", b)
	}
	if b := table.Seal(); !bytes.Equal(b, make([]byte, 4)) {
		t.Errorf("Seal of nothing: %x", b)
	}
}

// wantRefused tells if bytes can be opened.
func wantRefused(t *testing.T, table *crc.Table, b ...byte) {
	t.Helper()
	if got, ok := table.Open(b...); ok || len(got) != 0 {
		t.Errorf("Open of %x: %x %t", b, got, ok)
	}
}

func TestOpenRefuses(t *testing.T) {
	var table crc.Table
	for n := range 4 {
		wantRefused(t, &table, make([]byte, n)...)
		wantRefused(t, &table, some(n, 2)...)
	}
	wantRefused(t, &table, []byte("123456789\x26\x39\xf4\xcb")...) // the lowest one first
	wantRefused(t, &table, 0, 0, 0, 1)
	for n := range 12 {
		sealed := table.Seal(some(n, 4)...)
		for bit := range len(sealed) * 8 {
			sealed[bit/8] ^= 1 << (bit % 8)
			wantRefused(t, &table, sealed...)
			sealed[bit/8] ^= 1 << (bit % 8)
		}
		wantRefused(t, &table, sealed[:len(sealed)-1]...)
		wantRefused(t, &table, append(bytes.Clone(sealed), 1)...)
	}
}

// Rule 4: what is handed in stays as it was, its spare room too, and what is answered shares no memory with it.
func TestMemoryIsNew(t *testing.T) {
	var table crc.Table
	kept := append(table.Seal(1, 2, 3), 9, 9, 9, 9, 9)
	before := bytes.Clone(kept)
	table.Of(kept[:3]...)
	sealed, again := table.Seal(kept[:3]...), table.Seal(kept[:3]...)
	opened, ok := table.Open(kept[:7]...)
	if !ok {
		t.Fatal("Open")
	}
	sealed[0], sealed[6], opened[0] = 99, 99, 99
	_ = append(append(opened, 99), 99)
	if !bytes.Equal(kept, before) || !bytes.Equal(again, before[:7]) {
		t.Errorf("%x, want %x; %x", kept, before, again)
	}
}
