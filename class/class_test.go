package class_test

import (
	"bytes"
	"slices"
	"strconv"
	"strings"
	"testing"

	"guipure/api"
	"guipure/class"
)

// truth: which bytes are in a set, told byte by byte.
type truth [256]bool

// set: the set of those bytes, bit by bit as the chapter has it.
func (in truth) set() class.Set {
	var s class.Set
	for c, ok := range in {
		if ok {
			s[c/64] += 1 << (c % 64)
		}
	}
	return s
}

// bytes: those bytes, rising.
func (in truth) bytes() []byte {
	var out []byte
	for c, ok := range in {
		if ok {
			out = append(out, byte(c))
		}
	}
	return out
}

// of: the bytes for which something is true.
func of(is func(c int) bool) truth {
	var in truth
	for c := range in {
		in[c] = is(c)
	}
	return in
}

// truths: sets of many sorts.
func truths() []truth {
	out := []truth{
		{},
		of(func(int) bool { return true }),
		of(func(c int) bool { return c%2 == 0 }),
		of(func(c int) bool { return c%2 == 1 }),
		of(func(c int) bool { return c >= '0' && c <= '9' }),
		of(func(c int) bool { return c < '0' || c > '9' }),
		of(func(c int) bool { return c/64%2 == 0 }),
		of(func(c int) bool { return c == 0 || c == 255 }),
	}
	for _, one := range []int{0, 1, 63, 64, 127, 128, 191, 192, 254, 255} {
		out = append(out, of(func(c int) bool { return c == one }), of(func(c int) bool { return c != one }))
	}
	seed := uint32(5)
	for range 30 {
		out = append(out, of(func(int) bool {
			seed = seed*1664525 + 1013904223
			return seed>>31 == 1
		}))
	}
	return out
}

// wantSet tells if a set isn't of just these bytes.
func wantSet(t *testing.T, what string, got class.Set, want truth) {
	t.Helper()
	if got != want.set() {
		t.Errorf("%s: %v, want %v", what, got.Bytes(), want.bytes())
	}
}

// P5.1

func TestOf(t *testing.T) {
	for _, in := range truths() {
		list := in.bytes()
		wantSet(t, "Of", class.Of(list...), in)
		slices.Reverse(list)
		wantSet(t, "Of, falling, twice", class.Of(append(list, list...)...), in)
	}
	if class.Of() != (class.Set{}) {
		t.Error("Of none")
	}
}

func TestRange(t *testing.T) {
	for from := range 256 {
		for to := range 256 {
			want := of(func(c int) bool { return from <= c && c <= to })
			if got := class.Range(byte(from), byte(to)); got != want.set() {
				t.Fatalf("Range from %d to %d: %v", from, to, got.Bytes())
			}
		}
	}
}

func TestAll(t *testing.T) {
	wantSet(t, "All", class.All(), of(func(int) bool { return true }))
}

func TestAsked(t *testing.T) {
	for _, in := range truths() {
		s, list := in.set(), in.bytes()
		for c, want := range in {
			if s.Has(byte(c)) != want {
				t.Errorf("Has of %v and %d: %t", list, c, !want)
			}
		}
		if s.Len() != len(list) || s.Empty() != (len(list) == 0) {
			t.Errorf("Len, Empty of %v: %d %t", list, s.Len(), s.Empty())
		}
		wantFirst, wantE := byte(0), api.ErrEmpty
		if len(list) > 0 {
			wantFirst, wantE = list[0], api.OK
		}
		if c, ok := s.First(); c != wantFirst || ok != (len(list) > 0) {
			t.Errorf("First of %v: %d %t", list, c, ok)
		}
		if e := class.Check(s); e != wantE {
			t.Errorf("Check of %v: %v, want %v", list, e, wantE)
		}
	}
}

func TestTogether(t *testing.T) {
	for _, a := range truths() {
		wantSet(t, "Not", a.set().Not(), of(func(c int) bool { return !a[c] }))
		for _, b := range truths() {
			wantSet(t, "And", a.set().And(b.set()), of(func(c int) bool { return a[c] && b[c] }))
			wantSet(t, "Or", a.set().Or(b.set()), of(func(c int) bool { return a[c] || b[c] }))
		}
	}
}

// P5.2

func TestEachAndBytes(t *testing.T) {
	for _, in := range truths() {
		want := in.bytes()
		var got []byte
		for c := range in.set().Each {
			got = append(got, c)
		}
		if !bytes.Equal(got, want) {
			t.Errorf("Each: %v, want %v", got, want)
		}
		if got := in.set().Bytes(); !bytes.Equal(got, want) {
			t.Errorf("Bytes: %v, want %v", got, want)
		}
	}
}

func TestEachEndsWhenItIsTold(t *testing.T) {
	s := class.Of(0, 5, 63, 64, 200, 255)
	for most := 1; most <= s.Len(); most++ {
		var got []byte
		s.Each(func(c byte) bool {
			got = append(got, c)
			return len(got) < most
		})
		if !bytes.Equal(got, s.Bytes()[:most]) {
			t.Errorf("Each up to %d: %v", most, got)
		}
	}
	class.Set{}.Each(func(byte) bool {
		t.Error("a byte of none")
		return true
	})
	s.Each(nil) // P1: it doesn't panic
}

func TestBytesIsNew(t *testing.T) {
	s := class.Range('a', 'c')
	one, other := s.Bytes(), s.Bytes()
	one[0] = 'z'
	if string(other) != "abc" || string(s.Bytes()) != "abc" {
		t.Errorf("%q %q", other, s.Bytes())
	}
}

// P5.3

// rows: which sets of a list each byte is in, as a word; bytes that are in the same ones have the same word.
func rows(list []truth) [256]string {
	var out [256]string
	for c := range out {
		for _, in := range list {
			out[c] += strconv.FormatBool(in[c]) + " "
		}
	}
	return out
}

// wantSplit tells if all bytes aren't cut as P5.3 has it: bytes of one row are of one piece, and no others are.
func wantSplit(t *testing.T, list []truth) {
	t.Helper()
	var sets []class.Set
	for _, in := range list {
		sets = append(sets, in.set())
	}
	words := rows(list)
	var want []class.Set
	for c := range 256 {
		if slices.Index(words[:], words[c]) == c { // the least one of its row
			want = append(want, of(func(d int) bool { return words[d] == words[c] }).set())
		}
	}
	if got := class.Split(sets...); !slices.Equal(got, want) {
		t.Errorf("Split of %d sets: %d pieces, want %d: %v, want %v", len(list), len(got), len(want), got, want)
	}
}

func TestSplit(t *testing.T) {
	all := truths()
	wantSplit(t, nil)
	wantSplit(t, all)
	for i, a := range all {
		wantSplit(t, []truth{a})
		wantSplit(t, []truth{a, a})
		wantSplit(t, all[:i])
		wantSplit(t, all[i:])
		for _, b := range all {
			wantSplit(t, []truth{a, b})
		}
	}
	var each []truth
	for one := range 256 {
		each = append(each, of(func(c int) bool { return c == 255-one }))
	}
	wantSplit(t, each)
	wantSplit(t, append(each, each...))
}

func TestSplitNamed(t *testing.T) {
	digits := class.Range('0', '9')
	if got := class.Split(digits); !slices.Equal(got, []class.Set{digits.Not(), digits}) {
		t.Errorf("the digits: %v", got)
	}
	if got := class.Split(); !slices.Equal(got, []class.Set{class.All()}) {
		t.Errorf("of no sets: %v", got)
	}
	if got := class.Split(class.Set{}, class.All()); !slices.Equal(got, []class.Set{class.All()}) {
		t.Errorf("of none and all: %v", got)
	}
	got := class.Split(class.Range('a', 'm'), class.Range('g', 'z'))
	want := []class.Set{class.Range('a', 'z').Not(), class.Range('a', 'f'), class.Range('g', 'm'), class.Range('n', 'z')}
	if !slices.Equal(got, want) {
		t.Errorf("of two: %v, want %v", got, want)
	}
}

func TestSplitIsNew(t *testing.T) {
	list := []class.Set{class.Of('b'), class.Of('a'), {}, {}}
	one, other := class.Split(list[:2]...), class.Split(list[:2]...)
	one[0] = class.Set{}
	_ = append(one, class.Of('z'))
	if list[0] != class.Of('b') || list[1] != class.Of('a') || list[2] != (class.Set{}) || other[0] != class.Of('a', 'b').Not() {
		t.Errorf("%v %v", list, other)
	}
}

// P5.4

// shown are the bytes that stand for themselves.
const shown = "!$%&',0123456789:;<=>@ABCDEFGHIJKLMNOPQRSTUVWXYZ_`abcdefghijklmnopqrstuvwxyz~"

// named: a byte's name, by a list of those that stand for themselves.
func named(c byte) string {
	if strings.IndexByte(shown, c) >= 0 {
		return string([]byte{c})
	}
	two := "0" + strconv.FormatInt(int64(c), 16)
	return `\x` + two[len(two)-2:]
}

func TestName(t *testing.T) {
	for c := range 256 {
		if got, want := class.Name(byte(c)), named(byte(c)); got != want {
			t.Errorf("Name of %d: %s, want %s", c, got, want)
		}
	}
	for c, want := range map[byte]string{'a': "a", '!': "!", '~': "~", ' ': `\x20`, 127: `\x7f`, 0: `\x00`, 10: `\x0a`, 255: `\xff`, '\\': `\x5c`, '/': `\x2f`, '[': `\x5b`, ']': `\x5d`, '(': `\x28`, ')': `\x29`, '{': `\x7b`, '}': `\x7d`, '|': `\x7c`, '*': `\x2a`, '+': `\x2b`, '?': `\x3f`, '.': `\x2e`, '-': `\x2d`, '^': `\x5e`, '#': `\x23`, '"': `\x22`, ',': ",", '$': "$"} {
		if got := class.Name(c); got != want {
			t.Errorf("Name of %q: %s, want %s", c, got, want)
		}
	}
}

func TestText(t *testing.T) {
	wants := []struct {
		s    class.Set
		text string
	}{
		{class.All(), "."},
		{class.Of('a'), "a"},
		{class.Of(0), `\x00`},
		{class.Of(255), `\xff`},
		{class.Of('.'), `\x2e`},
		{class.Set{}, "[]"},
		{class.Range('0', '9'), "[0-9]"},
		{class.Of('a', 'b'), "[a-b]"},
		{class.Of('a', 'c'), "[ac]"},
		{class.Of('c', 'b', 'a', 'x', 'e'), "[a-cex]"},
		{class.Of(0, 255), `[\x00\xff]`},
		{class.Of(0).Not(), `[\x01-\xff]`},
		{class.Of(255).Not(), `[\x00-\xfe]`},
		{class.Of('a').Not(), "[\\x00-`b-\\xff]"},
		{class.Range('+', '/'), `[\x2b-\x2f]`},
		{class.Range(63, 64).Or(class.Range(127, 128)), `[\x3f-@\x7f-\x80]`},
		{class.Of(' ', '^', ']'), `[\x20\x5d-\x5e]`},
	}
	for _, w := range wants {
		if got := class.Text(w.s); got != w.text {
			t.Errorf("Text of %v: %s, want %s", w.s.Bytes(), got, w.text)
		}
	}
}

// runs: what stands between the brackets, told by walking over all bytes.
func runs(in truth) string {
	out := ""
	for c := 0; c < 256; c++ {
		if !in[c] {
			continue
		}
		from := c
		for c < 255 && in[c+1] {
			c++
		}
		out += named(byte(from))
		if c > from {
			out += "-" + named(byte(c))
		}
	}
	return out
}

func TestTextIsRuns(t *testing.T) {
	for _, in := range truths() {
		s := in.set()
		if n := len(in.bytes()); n == 1 || n == 256 {
			continue
		}
		if got, want := class.Text(s), "["+runs(in)+"]"; got != want {
			t.Errorf("Text: %s, want %s", got, want)
		}
	}
}
