package dns_test

import (
	"encoding/binary"
	"math"
	"slices"
	"strings"
	"testing"

	"guipure/api"
	"guipure/dns"
	"guipure/sample"
)

// P29.4

// wantName tells if the name at a byte isn't resolved as it must be.
func wantName(t *testing.T, b []byte, at int) api.Errno {
	t.Helper()
	was := slices.Clone(b)
	labels, end, e := dns.Resolve(b, at)
	want, wantEnd, told := resolve(b, at)
	if e != told || end != wantEnd || !slices.Equal(labels, want) {
		t.Errorf("%x at %d: %q, %d, %v, want %q, %d, %v", b, at, labels, end, e, want, wantEnd, told)
	}
	if !slices.Equal(b, was) {
		t.Errorf("%x has become %x", was, b)
	}
	return e
}

func TestResolve(t *testing.T) {
	for _, w := range []struct {
		bytes string
		at    int
		want  string
		end   int
	}{
		{"\x00", 0, ".", 1},
		{"\x00\x00", 1, ".", 2},
		{"\x02ab\x01c\x00", 0, "ab.c.", 6},
		{"\x02ab\x01c\x00", 3, "c.", 6},
		{"\x02ab\x01c\x00\xc0\x00", 6, "ab.c.", 8},
		{"\x02ab\x01c\x00\xc0\x03", 6, "c.", 8},
		{"\x02ab\x01c\x00\xc0\x05rest", 6, ".", 8}, // to the root alone
		{"\x02ab\x01c\x00\x01d\xc0\x00", 6, "d.ab.c.", 10},
		{"\x02ab\x01c\x00\x01d\xc0\x00\x01e\xc0\x06", 10, "e.d.ab.c.", 14}, // behind its first pointer
		{"\xc0\x02\x01a\x00", 0, "a.", 2},                                  // one that points on
		{"\x01a\xc0\x06xx\x00", 0, "a.", 4},
		{"\x03a.b\x00", 0, "a.b.", 5}, // a point within a label
		{"\x01\x00\x02\xff\xc0\x00", 0, "\x00.\xff\xc0.", 6},
		{"\x01a\x00" + strings.Repeat("z", 16380) + "\xc0\x00", 16383, "a.", 16385},
		{strings.Repeat("z", 16383) + "\x01a\x00\xff\xff", 16386, "a.", 16388}, // the last byte to which one can point
	} {
		b := []byte(w.bytes)
		labels, end, e := dns.Resolve(b, w.at)
		if e != api.OK || end != w.end || dns.Join(labels...) != w.want {
			t.Errorf("%.40q at %d: %q, %d, %v, want %q, %d", w.bytes, w.at, labels, end, e, w.want, w.end)
		}
		wantName(t, b, w.at)
	}
}

func TestResolveWrongOnes(t *testing.T) {
	for _, w := range []struct {
		bytes string
		at    int
		want  api.Errno
	}{
		{"", 0, api.ErrEnd},
		{"\x00", 1, api.ErrEnd},
		{"", 1, api.ErrRange},
		{"", -1, api.ErrRange},
		{"\x00", 2, api.ErrRange},
		{"\x00", -1, api.ErrRange},
		{"\x00", math.MinInt, api.ErrRange},
		{"\x00", math.MaxInt, api.ErrRange},
		{"\x01a", 0, api.ErrEnd},
		{"\x01", 0, api.ErrEnd},
		{"\x03ab", 0, api.ErrEnd},
		{"\x3f", 0, api.ErrEnd},
		{"\x40\x00", 0, api.ErrChoice},
		{"\x7f", 0, api.ErrChoice},
		{"\x80", 0, api.ErrChoice},
		{"\xbf\x00", 0, api.ErrChoice},
		{"\x01a\x40", 0, api.ErrChoice},
		{"\xc0", 0, api.ErrEnd},
		{"\xff", 0, api.ErrEnd},
		{"\x01a\xc0", 0, api.ErrEnd},
		{"\xc0\x02", 0, api.ErrEnd}, // to the end
		{"\xc0\x03", 0, api.ErrEnd}, // behind it
		{"\xff\xff", 0, api.ErrEnd},
		{"\xc0\x01", 0, api.ErrEnd},          // to its own second byte, which is a label of one byte
		{"\x40\xc0\x00", 1, api.ErrChoice},   // where it points
		{"\x00\x02a\xc0\x01", 3, api.ErrEnd}, // to a label of which it has the last byte itself
		{"\xc0\x00", 0, api.ErrDeep},         // ever again
		{"\xc0\x02\xc0\x00", 0, api.ErrDeep},
		{"\x01a\xc0\x00", 0, api.ErrDeep}, // 65 labels have 131 bytes
		{"\x03abc\xc0\x00", 0, api.ErrLong},
	} {
		b := []byte(w.bytes)
		if labels, end, e := dns.Resolve(b, w.at); e != w.want || end != 0 || len(labels) != 0 {
			t.Errorf("%q at %d: %q, %d, %v, want %v", w.bytes, w.at, labels, end, e, w.want)
		}
		wantName(t, b, w.at)
	}
	for c := range 256 {
		wantName(t, []byte{byte(c)}, 0)
		wantName(t, append([]byte{0, byte(c)}, make([]byte, c)...), 1)
	}
}

// long: a name of labels of so many bytes, and the root.
func long(labels ...int) []byte {
	var out []byte
	for _, many := range labels {
		out = append(append(out, byte(many)), strings.Repeat("x", many)...)
	}
	return append(out, 0)
}

func TestResolveLongNames(t *testing.T) {
	for _, w := range []struct {
		labels []int
		want   api.Errno
	}{
		{[]int{63, 63, 63, 61}, api.OK}, // 255 bytes
		{[]int{63, 63, 63, 62}, api.ErrLong},
		{[]int{63, 63, 63, 63}, api.ErrLong},
		{[]int{63, 63, 63, 59, 1}, api.OK},
		{[]int{63, 63, 63, 59, 2}, api.ErrLong},
		{slices.Repeat([]int{1}, 127), api.OK},
		{slices.Repeat([]int{1}, 128), api.ErrLong},
	} {
		b := long(w.labels...)
		if e := wantName(t, b, 0); e != w.want {
			t.Errorf("%v: %v, want %v", w.labels, e, w.want)
		}
		for many := range len(b) { // what isn't there is told ahead of what is too long
			wantName(t, b[:many], 0)
		}
		behind := append(long(w.labels[1:]...), byte(w.labels[0])) // the first one, and a pointer to the others
		at := len(behind) - 1
		behind = append(append(behind, strings.Repeat("x", w.labels[0])...), 0xc0, 0)
		if e := wantName(t, behind, at); e != w.want {
			t.Errorf("%v by a pointer: %v, want %v", w.labels, e, w.want)
		}
	}
	cut := long(63, 63, 63, 62)
	cut = cut[:len(cut)-2] // the last label isn't all there
	if e := wantName(t, cut, 0); e != api.ErrEnd {
		t.Error(e)
	}
}

// pointers: so many, each to the next one, and the root behind them.
func pointers(many int) []byte {
	var out []byte
	for i := range many {
		out = binary.BigEndian.AppendUint16(out, uint16(0xc000+2*(i+1)))
	}
	return append(out, 0)
}

func TestResolveManyPointers(t *testing.T) {
	for many := range 70 {
		want := api.OK
		if many > dns.MaxJumps {
			want = api.ErrDeep
		}
		b := pointers(many)
		if e := wantName(t, b, 0); e != want {
			t.Errorf("%d: %v, want %v", many, e, want)
		}
		wantName(t, b[:len(b)-1], 0)
	}
	b := pointers(dns.MaxJumps + 1)
	if e := wantName(t, b[:len(b)-2], 0); e != api.ErrEnd { // ahead of that it is one too many
		t.Error(e)
	}
}

func TestResolveSamples(t *testing.T) {
	m := &sample.Maker{Seed: 4}
	firsts := []byte{0, 0, 1, 1, 2, 2, 3, 5, 20, 62, 63, 64, 128, 191, 192, 192, 192, 192, 192, 193, 255}
	told := map[api.Errno]int{}
	for range 40000 {
		var b []byte
		for range m.UpTo(60) * (1 + m.UpTo(8)/7*5) {
			if m.UpTo(3) == 0 {
				b = append(b, byte(m.UpTo(60)))
			} else {
				b = append(b, firsts[m.UpTo(len(firsts))])
			}
		}
		told[wantName(t, b, m.UpTo(len(b)+4)-1)]++
	}
	for range 2000 { // in messages
		made := message(m, 3)
		b := bytesOf(made)
		for at := 12; at < len(b); at += 1 + m.UpTo(20) {
			told[wantName(t, b, at)]++
		}
		told[wantName(t, b, 12)]++
	}
	for _, e := range []api.Errno{api.OK, api.ErrRange, api.ErrEnd, api.ErrLong, api.ErrChoice, api.ErrDeep} {
		if told[e] < 100 {
			t.Errorf("%v: %d times", e, told[e])
		}
	}
}

// What is answered is new memory, which stays as the bytes become other ones.
func TestResolveAnswersItsOwn(t *testing.T) {
	b := []byte("\x02ab\x01c\x00")
	x, _, _ := dns.Resolve(b, 0)
	y, _, _ := dns.Resolve(b, 0)
	x = x[:cap(x)]
	for i := range x {
		x[i] = "z"
	}
	clear(b)
	if !slices.Equal(y, []string{"ab", "c"}) {
		t.Errorf("%q", y)
	}
}

func TestJoin(t *testing.T) {
	for want, labels := range map[string][]string{
		".":          nil,
		"a.":         {"a"},
		"ab.c.":      {"ab", "c"},
		"a.b.c.":     {"a.b", "c"},
		"..":         {"", ""},
		"a..":        {"a", ""},
		"\xff.\x00.": {"\xff", "\x00"},
	} {
		if got := dns.Join(labels...); got != want {
			t.Errorf("%q: %q, want %q", labels, got, want)
		}
	}
	if got := dns.Join(""); got != "." {
		t.Errorf("%q", got)
	}
}
