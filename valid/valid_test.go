package valid_test

import (
	"math"
	"reflect"
	"slices"
	"strconv"
	"strings"
	"sync"
	"testing"

	"guipure/api"
	"guipure/first"
	"guipure/sample"
	"guipure/scope"
	"guipure/spec"
	"guipure/tree"
	"guipure/valid"
)

// maker: one of a text's specification.
func maker(t *testing.T, text string) *valid.Maker {
	t.Helper()
	m, f := valid.New(read(t, text))
	if f != (api.Fault{}) || m == nil {
		t.Fatalf("New of %s: %v", text, f)
	}
	return m
}

// grown: the tree of a text.
func grown(t *testing.T, text string) api.Tree {
	t.Helper()
	x, e := tree.Parse(text)
	if e != api.OK {
		t.Fatalf("Parse of %.200q: %v", text, e)
	}
	return x
}

// right is a tree that is one of a specification: it, filled in, and how many bytes it stands for.
type right struct {
	text, tree, filled string
	size               int
}

// wantRight tells if trees aren't filled in so; an empty text is that of the tree ahead, an empty tree is the one that is filled in.
func wantRight(t *testing.T, list []right) {
	t.Helper()
	text := ""
	for _, w := range list {
		if w.text != "" {
			text = w.text
		}
		if w.filled == "" {
			w.filled = w.tree
		}
		got, size, f := maker(t, text).Fill(grown(t, w.tree))
		if f != (api.Fault{}) || tree.Text(got) != w.filled || size != w.size {
			t.Errorf("%s by %s: %s, %d, %v, want %s, %d", w.tree, text, tree.Text(got), size, f, w.filled, w.size)
		}
		if got, size, f := judge(read(t, text)).fill(grown(t, w.tree)); f != (api.Fault{}) || tree.Text(got) != w.filled || size != w.size {
			t.Errorf("%s by %s: the tests' %s, %d, %v", w.tree, text, tree.Text(got), size, f)
		}
	}
}

// wrong is a tree that is none of a specification: what is told, and at which part.
type wrong struct {
	text, tree string
	code       api.Errno
	at         int
}

// wantWrong tells if that isn't told of trees.
func wantWrong(t *testing.T, list []wrong) {
	t.Helper()
	text := ""
	for _, w := range list {
		if w.text != "" {
			text = w.text
		}
		want := api.Fault{Code: w.code, At: w.at}
		got, size, f := maker(t, text).Fill(grown(t, w.tree))
		if f != want || size != 0 || !reflect.DeepEqual(got, api.Tree{}) {
			t.Errorf("%s by %s: %s, %d, %v, want %v", w.tree, text, tree.Text(got), size, f, want)
		}
		if _, _, f := judge(read(t, text)).fill(grown(t, w.tree)); f != want {
			t.Errorf("%s by %s: the tests' %v", w.tree, text, f)
		}
	}
}

// P18.1

func TestNew(t *testing.T) {
	for _, text := range sample.Refused() {
		s := read(t, text)
		want := first.Check(s)
		if m, f := valid.New(s); m != nil || f != want || f.Code == api.OK {
			t.Errorf("%s: %v, %v, want %v", text, m, f, want)
		}
	}
	if m, f := valid.New(api.Spec{}); m != nil || f != (api.Fault{Code: api.ErrLong}) {
		t.Errorf("of nothing: %v, %v", m, f)
	}
}

func TestNumbers(t *testing.T) {
	wantRight(t, []right{
		{"main = u8;", "0", "", 1},
		{"", "255", "", 1},
		{"main = u8 3..7;", "3", "", 1},
		{"", "7", "", 1},
		{"main = u16le;", "65535", "", 2},
		{"main = u24be;", "1", "", 3},
		{"main = u64be;", "18446744073709551615", "", 8},
		{"main = varint;", "0", "", 1},
		{"", "127", "", 1},
		{"", "128", "", 2},
		{"", "16383", "", 2},
		{"", "16384", "", 3},
		{"", "9223372036854775807", "", 9},
		{"", "9223372036854775808", "", 10},
		{"", "18446744073709551615", "", 10},
		{"main = varint lenient 100..300;", "100", "", 1}, // as it is written
		{"", "300", "", 2},
		{"main = zigzag 3..4;", "3", "", 1}, // as it is without a sign
		{"a = u8 3..7; b = a; main = b;", "5", "", 1},
	})
	wantWrong(t, []wrong{
		{"main = u8;", "256", api.ErrValue, 0},
		{"", "18446744073709551615", api.ErrValue, 0},
		{"", "_0", api.ErrBlank, 0},
		{"", "_7", api.ErrBlank, 0},
		{"", "_256", api.ErrBlank, 0},
		{"", "7:00", api.ErrShape, 0},
		{"", "7(0)", api.ErrShape, 0},
		{"", "256(0)", api.ErrShape, 0},
		{"", "_0:00", api.ErrShape, 0},
		{"main = u8 3..7;", "2", api.ErrValue, 0},
		{"", "8", api.ErrValue, 0},
		{"", "_0", api.ErrBlank, 0},
		{"main = varint 3..7;", "2", api.ErrValue, 0},
		{"", "8", api.ErrValue, 0},
		{"", "_5", api.ErrBlank, 0},
		{"", "5:05", api.ErrShape, 0},
		{"main = zigzag 3..4;", "2", api.ErrValue, 0},
		{"a = u8 3..7; b = a; main = b;", "8", api.ErrValue, 0},
	})
}

func TestBytes(t *testing.T) {
	wantRight(t, []right{
		{"main = /a[0-9]*b/;", "0:6162", "", 2},
		{"", "0:6130313262", "", 5},
		{"main = bytes[3];", "0:000102", "", 3},
		{"main = bytes[0];", "0", "", 0},
		{"main = empty;", "0", "", 0},
		{"main = { n: u8; d: bytes[2*n+1]; };", "0(0,0:07)", "", 2},
		{"", "0(2,0:0708090a0b)", "", 6},
		{"main = { n: varint; d: bytes[18446744073709551615*n]; };", "0(0,0)", "", 1},
	})
	wantWrong(t, []wrong{
		{"main = /a[0-9]*b/;", "0:61", api.ErrToken, 0},
		{"", "0", api.ErrToken, 0},
		{"", "0:616262", api.ErrToken, 0},
		{"", "0:6263", api.ErrToken, 0},
		{"", "1:6162", api.ErrShape, 0},
		{"", "0:6162(0)", api.ErrShape, 0},
		{"", "_0:6162", api.ErrBlank, 0},
		{"", "_0:61", api.ErrBlank, 0},
		{"", "_1:6162", api.ErrShape, 0},
		{"main = bytes[3];", "0:0001", api.ErrLimit, 0},
		{"", "0:00010203", api.ErrLimit, 0},
		{"", "0", api.ErrLimit, 0},
		{"", "3", api.ErrShape, 0},
		{"", "0:000102(0)", api.ErrShape, 0},
		{"", "_0:000102", api.ErrBlank, 0},
		{"main = empty;", "1", api.ErrShape, 0},
		{"", "0:00", api.ErrShape, 0},
		{"", "0(0)", api.ErrShape, 0},
		{"", "_0", api.ErrBlank, 0},
		{"main = { n: u8; d: bytes[2*n+1]; };", "0(1,0:0102)", api.ErrLimit, 2},
		{"", "0(1,0)", api.ErrLimit, 2},
		{"main = { n: varint; d: bytes[18446744073709551615*n]; };", "0(2,0)", api.ErrOver, 2},
		{"", "0(1,0)", api.ErrLimit, 2},
		{"main = { n: varint; d: bytes[2*n+1]; };", "0(9223372036854775807,0)", api.ErrLimit, 2},
		{"", "0(9223372036854775808,0)", api.ErrOver, 2},
	})
}

func TestRecordsAndLists(t *testing.T) {
	wantRight(t, []right{
		{"main = { a: u8; b: { c: u16be; d: empty; }; };", "0(1,0(2,0))", "", 3},
		{"main = times[3] u8 1..9;", "0(1,2,3)", "", 3},
		{"main = times[0] u8;", "0", "", 0},
		{"main = { n: u8; t: times[2*n] varint; };", "0(0,0)", "", 1},
		{"", "0(1,0(5,500))", "", 4},
		{"main = many u16le;", "0", "", 0},
		{"", "0(1,2,3,4)", "", 8},
		{"main = within[3] many u8;", "0(0(1,2,3))", "", 3},
		{"main = within[0] many u8;", "0(0)", "", 0},
		{"main = within[0] within[0] empty;", "0(0(0))", "", 0},
		{"main = { n: u8; w: within[n+1] { a: u8; b: many u8; }; };", "0(2,0(0(1,0(2,3))))", "", 4},
	})
	wantWrong(t, []wrong{
		{"main = { a: u8; b: { c: u16be; d: empty; }; };", "0(1)", api.ErrShape, 0},
		{"", "0", api.ErrShape, 0},
		{"", "0(1,0(2,0),0)", api.ErrShape, 0},
		{"", "1(1,0(2,0))", api.ErrShape, 0},
		{"", "0:00(1,0(2,0))", api.ErrShape, 0},
		{"", "_0(1,0(2,0))", api.ErrBlank, 0},
		{"", "_0(1)", api.ErrShape, 0},
		{"", "0(1,0(2))", api.ErrShape, 2},
		{"", "0(1,0(65536,0))", api.ErrValue, 3},
		{"", "0(1,0(2,1))", api.ErrShape, 4},
		{"", "0(256,0(2))", api.ErrValue, 1},
		{"main = times[3] u8 1..9;", "0(1,2)", api.ErrLimit, 0},
		{"", "0(1,2,3,4)", api.ErrLimit, 0},
		{"", "0", api.ErrLimit, 0},
		{"", "0(0,0)", api.ErrLimit, 0},
		{"", "0(1,2,0)", api.ErrValue, 3},
		{"", "3(1,2,3)", api.ErrShape, 0},
		{"", "0:00(1,2,3)", api.ErrShape, 0},
		{"", "_0(1,2,3)", api.ErrBlank, 0},
		{"main = { n: u8; t: times[2*n] varint; };", "0(1,0(5))", api.ErrLimit, 2},
		{"main = { n: varint; t: times[2*n] varint; };", "0(9223372036854775808,0(5:00))", api.ErrOver, 2},
		{"main = many u16le;", "0(1,65536,70000)", api.ErrValue, 2},
		{"", "1", api.ErrShape, 0},
		{"", "0:0000", api.ErrShape, 0},
		{"", "_0", api.ErrBlank, 0},
		{"main = within[3] many u8;", "0(0(1,2))", api.ErrLimit, 0},
		{"", "0(0(1,2,3,4))", api.ErrLimit, 0},
		{"", "0(0(1,256))", api.ErrValue, 3}, // it is none of many u8, and so stands for no bytes
		{"", "0", api.ErrShape, 0},
		{"", "0(0(1,2,3),0)", api.ErrShape, 0},
		{"", "3(0(1,2,3))", api.ErrShape, 0},
		{"", "0:010203", api.ErrShape, 0},
		{"", "_0(0(1,2,3))", api.ErrBlank, 0},
		{"main = { n: varint; w: within[2*n] many u8; };", "0(9223372036854775808,0(0(256)))", api.ErrOver, 2},
		{"", "0(1,0(0(256)))", api.ErrValue, 4},
		{"", "0(1,0(0(25)))", api.ErrLimit, 2},
		{"main = { n: u8; w: within[n] many u8; x: u8; };", "0(1,0(0(5,6)),256)", api.ErrLimit, 2}, // ahead of what is behind it
		{"main = times[2] within[2] within[2] u16be;", "0(0(0(1)),0(0(65536)))", api.ErrValue, 6},
	})
}

func TestAlternatives(t *testing.T) {
	wantRight(t, []right{
		{"main = { n: u8; s: switch n { 0: empty; 7: u16be; }; };", "0(0,0(0))", "", 1},
		{"", "0(7,0(500))", "", 3},
		{"main = { n: u8; s: switch n { 0: empty; else: u16be; }; };", "0(9,0(500))", "", 3},
		{"main = { n: u8; s: switch n % 3 { 0: empty; 2: u16be; }; };", "0(9,0(0))", "", 1},
		{"", "0(8,0(500))", "", 3},
		{"main = { n: u8; s: switch n % 3 { 0: empty; else: u16be; }; };", "0(7,0(500))", "", 3},
		{"main = oneof { u8 0..9 | /x[0-9];/ };", "0(9)", "", 1},
		{"", "1(0:78353b)", "", 3},
		{"main = chain { u8 0..9 | last /x/ | last u8 10..20 };", "0(1(0:78))", "", 1},
		{"", "0(2(10))", "", 1},
		{"", "0(0(1),0(2),1(0:78))", "", 3},
		{"a = { n: u8 1..9; d: bytes[n]; }; main = chain { a | last u8 0..0 };", "0(0(0(1,0:ff)),1(0))", "", 3},
	})
	wantWrong(t, []wrong{
		{"main = { n: u8; s: switch n { 0: empty; 7: u16be; }; };", "0(1,0(0))", api.ErrCase, 2},
		{"", "0(1,0)", api.ErrShape, 2},
		{"", "0(7,0)", api.ErrShape, 2},
		{"", "0(7,0(1,2))", api.ErrShape, 2},
		{"", "0(7,1(1))", api.ErrShape, 2},
		{"", "0(7,0:00(1))", api.ErrShape, 2},
		{"", "0(7,_0(1))", api.ErrBlank, 2},
		{"", "0(1,_0(1))", api.ErrBlank, 2},
		{"", "0(7,0(65536))", api.ErrValue, 3},
		{"", "0(0,0(1))", api.ErrShape, 3},
		{"main = { n: u8; s: switch n % 3 { 0: empty; 2: u16be; }; };", "0(7,0(0))", api.ErrCase, 2},
		{"main = oneof { u8 0..9 | /x[0-9];/ };", "2(9)", api.ErrShape, 0}, // there is no such one
		{"", "2(10)", api.ErrShape, 0},
		{"", "18446744073709551615(9)", api.ErrShape, 0},
		{"", "2:00(9)", api.ErrShape, 0},
		{"", "2", api.ErrShape, 0},
		{"", "0", api.ErrShape, 0},
		{"", "0(9,9)", api.ErrShape, 0},
		{"", "0:00(9)", api.ErrShape, 0},
		{"", "_0(9)", api.ErrBlank, 0},
		{"", "_2(9)", api.ErrShape, 0}, // ahead of that it is blank
		{"", "_1(9)", api.ErrBlank, 0},
		{"", "0(10)", api.ErrValue, 1},
		{"", "1(9)", api.ErrShape, 1},
		{"", "1(0:783b)", api.ErrToken, 1},
		{"main = oneof { u8 };", "1(9)", api.ErrShape, 0},
		{"", "0(256)", api.ErrValue, 1},
		{"main = { a: u8; o: oneof { u8 0..3 | /z/ }; };", "0(9,2(0))", api.ErrShape, 2},
		{"", "0(256,2(0))", api.ErrValue, 1}, // from the front on
		{"main = many oneof { oneof { u8 0..3 | /z/ } | u8 4..5 };", "0(0(0(1)),0(2(1)),0(3(1)))", api.ErrShape, 5},
		{"main = chain { u8 0..9 | last /x/ | last u8 10..20 };", "0", api.ErrShape, 0},
		{"", "1(2(10))", api.ErrShape, 0},
		{"", "0:00(2(10))", api.ErrShape, 0},
		{"", "_0(2(10))", api.ErrBlank, 0},
		{"", "0(0(1))", api.ErrShape, 1},                  // none is the last
		{"", "0(0(1),0(2))", api.ErrShape, 3},             // likewise
		{"", "0(0(10))", api.ErrShape, 1},                 // ahead of its own
		{"", "0(_0(1))", api.ErrShape, 1},                 // ahead of that it is blank
		{"", "0(0(1),2(10),0(1))", api.ErrShape, 3},       // it is behind the last
		{"", "0(2(10),2(10))", api.ErrShape, 1},           // likewise
		{"", "0(_2(10),2(10))", api.ErrShape, 1},          // ahead of that it is blank
		{"", "0(_0(1),2(10))", api.ErrBlank, 1},           // it may stand there
		{"", "0(0(1),3(10))", api.ErrShape, 3},            // there is no such one
		{"", "0(3(1),2(10))", api.ErrShape, 1},            // likewise
		{"", "0(0(10),0(1))", api.ErrValue, 2},            // from the front on
		{"", "0(0(1),2)", api.ErrShape, 3},                // it hasn't one part
		{"", "0(0(1),2(10,10))", api.ErrShape, 3},         // likewise
		{"", "0(0(1),2:00(10))", api.ErrShape, 3},         // it has bytes
		{"", "0(0(1),_2(10))", api.ErrBlank, 3},           // it is blank
		{"", "0(0(1),0(2),1(0:79))", api.ErrToken, 6},     // not of its type
		{"", "0(0(1),0(10),1(0:79))", api.ErrValue, 4},    // likewise
		{"", "0(0(1),2(21),2(10),0(1))", api.ErrShape, 3}, // ahead of its own
		{"", "0(0(1),0(10),0(1))", api.ErrValue, 4},       // from the front on
		{"main = { a: u8; h: chain { u8 0..9 | last u8 10..20 }; };", "0(5,0(0(7),0(7)))", api.ErrShape, 5},
		{"", "0(5,0(0(7)))", api.ErrShape, 3},
		{"", "0(5,0(1(11),1(11)))", api.ErrShape, 3},
		{"", "0(5,0(0(7),2(11)))", api.ErrShape, 5},
		{"", "0(5,0(0(10),0(7)))", api.ErrValue, 4},
		{"main = many chain { last u8 0..9 };", "0(0(0(1)),0(0(2),0(3)))", api.ErrShape, 5},
	})
}

// Each name's type goes by nothing that is ahead of it.
func TestNamesAreAlone(t *testing.T) {
	wantRight(t, []right{
		{"a = { n: u8; d: bytes[n]; }; main = { n: u8; x: a; e: bytes[n]; y: a; };", "0(1,0(2,0:0102),0:01,0(0,0))", "", 6},
		{"a = { n: u8; d: bytes[n]; }; b = { n: u8; x: a; d: bytes[n]; }; main = { n: u8; x: b; e: bytes[n]; };", "0(1,0(2,0(3,0:010203),0:0102),0:01)", "", 9},
		{"main = { x: { n: u8; d: bytes[n]; }; n: u8; e: bytes[n]; };", "0(0(1,0:01),2,0:0102)", "", 5},
		{"main = { n: { n: u8; d: bytes[n]; }; d: u8; e: bytes[d]; };", "0(0(1,0:01),2,0:0102)", "", 5},
		{"main = { n: u8; t: times[n] { k: u8; d: bytes[k]; e: bytes[n]; }; };", "0(2,0(0(1,0:01,0:0102),0(0,0,0:0304)))", "", 8},
	})
	wantWrong(t, []wrong{
		{"a = { n: u8; d: bytes[n]; }; main = { n: u8; x: a; e: bytes[n]; y: a; };", "0(1,0(2,0:01),0:01,0(0,0))", api.ErrLimit, 4},
		{"", "0(1,0(2,0:0102),0:0102,0(0,0))", api.ErrLimit, 5},
		{"", "0(1,0(2,0:0102),0:01,0(0,0:01))", api.ErrLimit, 8},
		{"main = { x: { n: u8; d: bytes[n]; }; n: u8; e: bytes[n]; };", "0(0(1,0:01),2,0:01)", api.ErrLimit, 5},
		{"main = { n: u8; t: times[n] { k: u8; d: bytes[k]; e: bytes[n]; }; };", "0(2,0(0(1,0:01,0:0102),0(0,0,0:03)))", api.ErrLimit, 10},
	})
}

// P18.2

func TestBlanks(t *testing.T) {
	long := "0:" + strings.Repeat("ab", 300)
	wantRight(t, []right{
		{"main = { n: u8 = size(d); d: bytes[n]; };", "0(_0,0:0102030405)", "0(5,0:0102030405)", 6},
		{"", "0(_0,0)", "0(0,0)", 1},
		{"", "0(2,0:0102)", "", 3},
		{"main = { n: u8 = count(t); t: times[n] u16be; };", "0(_0,0(1,2,3))", "0(3,0(1,2,3))", 7},
		{"", "0(_0,0)", "0(0,0)", 1},
		{"", "0(1,0(9))", "", 3},
		{"main = { n: u8 = size(w); w: within[n] many u16be; };", "0(_0,0(0(1,2,3)))", "0(6,0(0(1,2,3)))", 7},
		{"", "0(_0,0(0))", "0(0,0(0))", 1},
		{"", "0(4,0(0(1,2)))", "", 5},
		{"main = { n: varint = size(d); d: bytes[n]; };", "0(_0," + long + ")", "0(300," + long + ")", 302},
		{"main = { n: u16le 2..3 = size(d); d: bytes[n]; };", "0(_0,0:0102)", "0(2,0:0102)", 4},
		{"", "0(_0,0:010203)", "0(3,0:010203)", 5},
		{"main = { a: u8; s: u32be = crc(a..a); };", "0(1,_0)", "", 5},
		{"", "0(1,0)", "", 5},
		{"", "0(1,4294967295)", "", 5}, // whether it is right layer 24 asks
		{"main = { n: u8 = size(d); c: u8 = count(t); d: bytes[n]; t: times[c] u8; s: u32le = crc(n..t); };", "0(_0,_0,0:0102,0(7,8,9),_0)", "0(2,3,0:0102,0(7,8,9),_0)", 11},
		{"main = { n: u8 = size(w); w: within[n] { a: u8; s: u32be = crc(a..a); }; };", "0(_0,0(0(1,_0)))", "0(5,0(0(1,_0)))", 6},
		{"main = { n: u8 = size(v); v: within[n] { m: u8 = size(w); w: within[m] { k: u8 = size(d); d: bytes[k]; }; }; };", "0(_0,0(0(_0,0(0(_0,0:0102)))))", "0(4,0(0(3,0(0(2,0:0102)))))", 5},
		{"main = many { n: u8 = size(d); d: bytes[n]; };", "0(0(_0,0:01),0(_0,0),0(2,0:0102))", "0(0(1,0:01),0(0,0),0(2,0:0102))", 6},
		{"main = { n: u8 = size(d); x: bytes[2*n]; d: bytes[n]; };", "0(_0,0:01020304,0:0506)", "0(2,0:01020304,0:0506)", 7}, // others go by it, too
		{"main = { n: u8 = size(w); x: bytes[n]; w: within[n] u16be; };", "0(_0,0:0102,0(3))", "0(2,0:0102,0(3))", 5},
		{"main = { n: u8 = size(w); k: u8 = size(d); d: bytes[k]; w: within[n] bytes[k]; };", "0(_0,_0,0:0102,0(0:0304))", "0(2,2,0:0102,0(0:0304))", 6},
		{"main = { n: u8 = size(w); k: u8 = count(d); d: times[k] u16be; w: within[n] bytes[k]; };", "0(_0,_0,0(1,2),0(0:0304))", "0(2,2,0(1,2),0(0:0304))", 8},
		{"main = { n: u8 = size(w); k: u8; w: within[n] switch k { 0: u8; 1: u16be; }; };", "0(_0,1,0(0(5)))", "0(2,1,0(0(5)))", 4},
	})
	wantWrong(t, []wrong{
		{"main = { n: u8 = size(d); d: bytes[n]; };", "0(9,0:0102030405)", api.ErrLimit, 2},
		{"", "0(0,0:01)", api.ErrLimit, 2},
		{"", "0(_0," + long + ")", api.ErrValue, 1},
		{"", "0(_5,0:0102030405)", api.ErrShape, 1},
		{"", "0(_0:00,0:0102030405)", api.ErrShape, 1},
		{"", "0(_0(0),0:0102030405)", api.ErrShape, 1},
		{"", "0(_0,0:0102(0))", api.ErrShape, 2},
		{"", "0(_0,_0:0102)", api.ErrBlank, 2},
		{"", "0(_0,_0)", api.ErrBlank, 2},
		{"", "_0(_0,0)", api.ErrBlank, 0},
		{"main = { n: u8 = count(t); t: times[n] u16be; };", "0(2,0(1))", api.ErrLimit, 2},
		{"", "0(_0,0(1,65536))", api.ErrValue, 4},
		{"", "0(_1,0(1))", api.ErrShape, 1},
		{"", "0(_0,0(_0))", api.ErrBlank, 3},
		{"main = { n: u8 1..2 = count(t); t: times[n] u8; };", "0(_0,0)", api.ErrValue, 1},
		{"", "0(_0,0(1,2,3))", api.ErrValue, 1},
		{"", "0(_0,0(1,2,256))", api.ErrValue, 1}, // a count isn't behind what it is of
		{"", "0(0,0)", api.ErrValue, 1},
		{"main = { n: u8 1..2 = size(d); d: bytes[n]; };", "0(_0,0)", api.ErrValue, 1},
		{"", "0(_0,0:010203)", api.ErrValue, 1},
		{"", "0(3,0:010203)", api.ErrValue, 1},
		{"main = { n: u8 = size(w); w: within[n] many u16be; };", "0(5,0(0(1,2)))", api.ErrLimit, 2},
		{"", "0(_0,0(0(1,65536)))", api.ErrValue, 5},
		{"", "0(_0,0)", api.ErrShape, 2},
		{"main = { a: u8; s: u32be = crc(a..a); };", "0(1,4294967296)", api.ErrValue, 2},
		{"", "0(1,_1)", api.ErrShape, 2},
		{"", "0(1,_0:00)", api.ErrShape, 2},
		{"", "0(1,5:00)", api.ErrShape, 2},
		{"", "0(_0,_0)", api.ErrBlank, 1},
		{"main = { n: u8; d: bytes[n]; };", "0(_0,0:01)", api.ErrBlank, 1}, // it isn't derived
	})
}

// P18.3

// Of a blank size the part that it is of is looked at ahead of it.
func TestWhatIsToldFirst(t *testing.T) {
	wantWrong(t, []wrong{
		{"main = { n: u8 1..2 = size(w); m: u8 5..9; w: within[n] /a*b/; };", "0(_0,3,0(0:61))", api.ErrToken, 4},
		{"", "0(_0,3,0(0:616162))", api.ErrValue, 1},
		{"", "0(_0,3,0(0:6162))", api.ErrValue, 2},
		{"", "0(_0,3,0)", api.ErrShape, 3},
		{"", "0(_0,_0,0(0:6162))", api.ErrBlank, 2},
		{"", "0(_9,3,0(0:61))", api.ErrToken, 4},
		{"", "0(_9,3,0(0:6162))", api.ErrShape, 1},
		{"", "0(2,3,0(0:61))", api.ErrValue, 2}, // it isn't blank
		{"", "0(3,3,0(0:61))", api.ErrValue, 1},
		{"", "0(2,6,0(0:61))", api.ErrToken, 4},
		{"", "0(1,6,0(0:6162))", api.ErrLimit, 3},
		{"main = { n: u8 1..2 = size(d); m: u8 5..9; d: bytes[n]; };", "0(_0,3,7:010203)", api.ErrShape, 3},
		{"", "0(_0,3,0:010203)", api.ErrValue, 1},
		{"", "0(_0,3,_0:010203)", api.ErrBlank, 3},
		{"", "0(3,3,7:010203)", api.ErrValue, 1},
		{"main = { n: u8 1..2 = count(d); m: u8 5..9; d: times[n] u8; };", "0(_0,3,7(1,2,3))", api.ErrValue, 1},
		{"", "0(_0,3,7(1,2))", api.ErrValue, 2},
		{"", "0(_0,5,7(1,2))", api.ErrShape, 3},
		{"main = { n: u8 = size(w); k: u8 1..3; w: within[n] bytes[k]; };", "0(_0,5,0(0:0102))", api.ErrLimit, 4}, // it goes by the 5 that stands there
		{"", "0(_0,5,0(0:0102030405))", api.ErrValue, 2},
		{"", "0(_0,_0,0(0))", api.ErrBlank, 2},
		{"", "0(_0,2:00,0(0:0102))", api.ErrShape, 2},
		{"main = { n: u8 = size(w); k: u8 1..3 = size(d); d: bytes[k]; w: within[n] bytes[k]; };", "0(_0,_0,0:01020304,0(0:0102))", api.ErrLimit, 5},
		{"", "0(_0,_0,0:01020304,0(0:01020304))", api.ErrValue, 2},
		{"", "0(_0,_0,9:01020304,0(0:01020304))", api.ErrShape, 3},
		{"main = { m: u8 = size(v); n: u8 = size(w); w: within[n] /a/; v: within[m] /b/; };", "0(_0,_0,0(0:00),0(0:00))", api.ErrToken, 6},
		{"", "0(_0,_0,0(0:00),0(0:62))", api.ErrToken, 4},
		{"", "0(1,_0,0(0:00),0(0:00))", api.ErrToken, 4},
		{"", "0(256,_0,0(0:00),0(0:00))", api.ErrValue, 1},
		{"main = { m: u8 = size(v); x: u8; v: within[m] { n: u8 = size(w); y: u8; w: within[n] /a/; }; };", "0(_0,256,0(0(_0,256,0(0:00))))", api.ErrToken, 8},
		{"", "0(_0,256,0(0(_0,256,0(0:61))))", api.ErrValue, 6},
		{"", "0(_0,256,0(0(_0,25,0(0:61))))", api.ErrValue, 2},
		{"main = { s: { a: u8; b: /x/; }; n: u8 = size(w); r: times[2] { a: u8; b: u8; }; w: within[n] many { c: u8; d: u8; }; };", "0(0(1,0:78),_0,0(0(1,2),0(3,4)),0(0(0(1,2),0(3,256))))", api.ErrValue, 19},
		{"", "0(0(1,0:79),_0,0(0(1,2),0(3,4)),0(0(0(1,2),0(3,256))))", api.ErrToken, 3},
		{"", "0(0(1,0:78),_0,0(0(1,2),0(3,256)),0(0(0(1,2),0(3,4))))", api.ErrValue, 11},
	})
}

func TestDeepTrees(t *testing.T) {
	m := maker(t, "main = { a: u8 1..9; b: u8; };")
	deep := func(many int) api.Tree { // so deep in all
		b := tree.Num(7)
		for range many - 2 {
			b = api.Tree{Kids: []api.Tree{b}} // as it is
		}
		return tree.Of(tree.Num(0), b)
	}
	for many, want := range map[int]api.Fault{
		2:       {Code: api.ErrValue, At: 1},
		200:     {Code: api.ErrValue, At: 1},
		201:     {Code: api.ErrValue, At: 1},
		202:     {Code: api.ErrShape},
		203:     {Code: api.ErrShape},
		1 << 16: {Code: api.ErrShape},
	} {
		if got, size, f := m.Fill(deep(many)); f != want || size != 0 || !reflect.DeepEqual(got, api.Tree{}) {
			t.Errorf("%d deep: %v, want %v", many, f, want)
		}
	}
	s := read(t, "main = within[1] u8;") // as deep as can be
	for len(s.Nodes) < scope.MaxNest {
		s.Nodes = append(s.Nodes, api.Node{Kind: api.Within, Expr: api.Expr{Add: 1}, Kids: []int{len(s.Nodes) - 1}})
	}
	s.Defs[0].Type = len(s.Nodes) - 1
	x := tree.Num(5)
	for range scope.MaxNest - 1 {
		x = tree.Of(x)
	}
	m, f := valid.New(s)
	if f != (api.Fault{}) {
		t.Fatal(f)
	}
	if got, size, f := m.Fill(x); f != (api.Fault{}) || size != 1 || !tree.Same(got, x) {
		t.Errorf("%d, %v", size, f)
	}
	if _, _, f := m.Fill(tree.Of(x)); f != (api.Fault{Code: api.ErrShape, At: scope.MaxNest - 1}) {
		t.Errorf("one deeper: %v", f)
	}
	if _, _, f := m.Fill(tree.Of(tree.Of(x))); f != (api.Fault{Code: api.ErrShape}) {
		t.Errorf("two deeper: %v", f)
	}
}

func TestGreatTrees(t *testing.T) {
	m := maker(t, "main = { n: u32be = size(d); x: u8 0..9; d: bytes[n]; };")
	for many, want := range map[int]api.Fault{
		valid.MaxSize - 5: {},
		valid.MaxSize - 4: {Code: api.ErrLong},
		valid.MaxSize:     {Code: api.ErrLong},
	} {
		d := api.Tree{Data: make([]byte, many)}
		got, size, f := m.Fill(tree.Of(tree.Blank(), tree.Num(1), d))
		if f != want || f.Code == api.OK && (size != valid.MaxSize || !tree.Same(got, tree.Of(tree.Num(uint64(many)), tree.Num(1), d))) {
			t.Errorf("%d: %d, %v, want %v", many, size, f, want)
		}
		if f.Code != api.OK && (size != 0 || !reflect.DeepEqual(got, api.Tree{})) {
			t.Errorf("%d: a tree of %d bytes is answered beside %v", many, size, f)
		}
		if _, _, f := m.Fill(tree.Of(tree.Blank(), tree.Num(10), d)); f != (api.Fault{Code: api.ErrValue, At: 2}) { // it is none of the type
			t.Errorf("%d, and wrong: %v", many, f)
		}
	}
	many := maker(t, "main = many u64be;")
	list := api.Tree{Kids: make([]api.Tree, valid.MaxSize/8)}
	if _, size, f := many.Fill(list); f != (api.Fault{}) || size != valid.MaxSize {
		t.Errorf("%d, %v", size, f)
	}
	list.Kids = append(list.Kids, api.Tree{})
	if _, size, f := many.Fill(list); f != (api.Fault{Code: api.ErrLong}) || size != 0 {
		t.Errorf("one more: %d, %v", size, f)
	}
	list.Kids[len(list.Kids)-1].Blank = true
	if _, _, f := many.Fill(list); f != (api.Fault{Code: api.ErrBlank, At: len(list.Kids)}) {
		t.Errorf("the last one is wrong: %v", f)
	}
}

// Blank sizes in each other: what is looked at ahead is looked at once.
func TestBlanksInEachOther(t *testing.T) {
	const many = 60
	text := "a0 = many u8;"
	x := tree.Of(tree.Num(1), tree.Num(2))
	want := x
	size := 2
	for i := range many {
		text += " a" + strconv.Itoa(i+1) + " = { n: varint = size(w); k: u8 3..9; w: within[n] a" + strconv.Itoa(i) + "; };"
		x, want = tree.Of(tree.Blank(), tree.Num(5), tree.Of(x)), tree.Of(tree.Num(uint64(size)), tree.Num(5), tree.Of(want))
		size += 2
		if size > 127+2 {
			size++
		}
	}
	m := maker(t, text)
	if got, n, f := m.Fill(x); f != (api.Fault{}) || n != size || !tree.Same(got, want) {
		t.Errorf("%d, %v, want %d", n, f, size)
	}
	way := slices.Repeat([]int{2, 0}, many) // to the inmost list
	wrong, _ := tree.Put(x, tree.Num(256), append(slices.Clone(way), 1)...)
	if _, _, f := m.Fill(wrong); f != (api.Fault{Code: api.ErrValue, At: 4*many + 2}) {
		t.Errorf("the inmost is wrong: %v", f)
	}
	wrong, _ = tree.Put(x, tree.Num(2), 1)
	wrong, _ = tree.Put(wrong, tree.Num(2), append(slices.Clone(way[:2*many-2]), 1)...) // the inmost one is looked at first
	if _, _, f := m.Fill(wrong); f != (api.Fault{Code: api.ErrValue, At: 4*(many-1) + 2}) {
		t.Errorf("two are wrong: %v", f)
	}
}

// P18.4

func TestCase(t *testing.T) {
	s := api.Node{Kind: api.Switch, Reg: "n", Else: -1, Cases: []api.Case{{Value: 3, Type: 7}, {Value: 0, Type: 5}, {Value: math.MaxUint64, Type: 9}, {Value: 3, Type: 8}}}
	by := func(n api.Node, mod uint64, other int) api.Node {
		n.Mod, n.Else = mod, other
		return n
	}
	for _, w := range []struct {
		n    api.Node
		x    uint64
		want int
	}{
		{s, 3, 7}, {s, 0, 5}, {s, math.MaxUint64, 9}, {s, 4, -1}, {s, 1, -1},
		{by(s, 0, 2), 3, 7}, {by(s, 0, 2), 4, 2}, {by(s, 0, 0), 4, 0},
		{by(s, 4, -1), 3, 7}, {by(s, 4, -1), 7, 7}, {by(s, 4, -1), 8, 5}, {by(s, 4, -1), 9, -1}, {by(s, 4, 6), 9, 6},
		{by(s, 4, -1), math.MaxUint64, 7}, {by(s, 1, -1), math.MaxUint64, 5}, {by(s, math.MaxUint64, -1), math.MaxUint64, 5}, {by(s, 3, -1), 3, 5},
		{api.Node{Kind: api.Choice, Kids: []int{1}}, 0, -1}, {api.Node{}, 0, -1}, {api.Node{Kind: api.Record, Mod: 3}, 5, -1}, {api.Node{Kind: api.Switch, Else: 4}, 5, 4},
	} {
		if got := valid.Case(w.n, w.x); got != w.want {
			t.Errorf("Case of %+v and %d: %d, want %d", w.n, w.x, got, w.want)
		}
	}
}

// P1, P2

func TestRawOnes(t *testing.T) {
	for _, s := range sample.Wrongs() {
		kept := spec.Clone(s)
		want := first.Check(s)
		if m, f := valid.New(s); f != want || (m == nil) != (f.Code != api.OK) {
			t.Errorf("New of %+v: %v, want %v", s, f, want)
		}
		for _, n := range s.Nodes {
			valid.Case(n, 0)
			valid.Case(n, math.MaxUint64)
		}
		if !reflect.DeepEqual(s, kept) {
			t.Errorf("what was handed in was changed: %+v", s)
		}
	}
}

// Trees of any form.
func TestFillOfRawOnes(t *testing.T) {
	m := &sample.Maker{Seed: 25}
	for _, text := range texts() {
		s := read(t, text)
		maker, _ := valid.New(s)
		o := judge(s)
		for i := range 300 {
			x := m.Tree(i % 6)
			wantFill(t, maker, o, x)
		}
		wantFill(t, maker, o, api.Tree{})
		wantFill(t, maker, o, api.Tree{Data: []byte{}, Kids: []api.Tree{}})
	}
}

// A Maker keeps nothing of what was handed in, and what it answers is new memory.
func TestMakersAreTheirOwn(t *testing.T) {
	s := read(t, "main = { n: u8 = size(d); d: bytes[n]; e: /a/; x: oneof { u8 0..9 | /b/ }; c: chain { u8 0..9 | last /b/ }; };")
	m, _ := valid.New(s)
	for i := range s.Nodes {
		for k := range s.Nodes[i].Kids {
			s.Nodes[i].Kids[k] = 0
		}
		clear(s.Nodes[i].Fields)
		clear(s.Nodes[i].Last)
		s.Nodes[i] = api.Node{Kind: api.Empty}
	}
	s.Defs[0].Type = 77
	x := grown(t, "0(_0,0:010203,0:61,1(0:62),0(0(5),1(0:62)))")
	x.Kids[1].Data = append(x.Kids[1].Data, 9, 9)[:3]
	x.Kids = append(x.Kids, tree.Num(99))[:5]
	kept := tree.Text(x)
	got, size, f := m.Fill(x)
	want := "0(3,0:010203,0:61,1(0:62),0(0(5),1(0:62)))"
	if f != (api.Fault{}) || size != 8 || tree.Text(got) != want || tree.Text(x) != kept {
		t.Fatalf("%s, %d, %v", tree.Text(got), size, f)
	}
	sample.Spoil(got)
	if tree.Text(x) != kept || x.Kids[:6][5].Num != 99 || x.Kids[1].Data[:4][3] != 9 {
		t.Errorf("%s shares memory with its answer", tree.Text(x))
	}
	again, _, _ := m.Fill(x)
	sample.Spoil(x)
	if tree.Text(again) != want {
		t.Errorf("%s shares memory with what was handed in", tree.Text(again))
	}
}

// Parts that share memory are parts all the same.
func TestPartsThatShareMemory(t *testing.T) {
	m := maker(t, "main = times[2] { n: u8 = size(w); w: within[n] many u8; };")
	one := grown(t, "0(_0,0(0(1,2)))")
	got, size, f := m.Fill(api.Tree{Kids: []api.Tree{one, one}})
	if f != (api.Fault{}) || size != 6 || tree.Text(got) != "0(0(2,0(0(1,2))),0(2,0(0(1,2))))" {
		t.Errorf("%s, %d, %v", tree.Text(got), size, f)
	}
	sample.Spoil(got.Kids[0])
	if tree.Text(got.Kids[1]) != "0(2,0(0(1,2)))" {
		t.Errorf("two parts of an answer share memory: %s", tree.Text(got))
	}
	far := grown(t, "0(_0,0(0(1,2)),7)") // a part is behind itself, too
	far.Kids[2] = tree.Of(api.Tree{Kids: far.Kids[1].Kids})
	m = maker(t, "main = { n: u8 = size(w); w: within[n] many u8; l: times[1] within[2] many u8; };")
	if got, size, f := m.Fill(far); f != (api.Fault{}) || size != 5 || tree.Text(got) != "0(2,0(0(1,2)),0(0(0(1,2))))" {
		t.Errorf("%s, %d, %v", tree.Text(got), size, f)
	}
}

// Several at the same time.
func TestFillByMany(t *testing.T) {
	m := maker(t, "main = { n: u8 = size(w); w: within[n] many u8; };")
	var all sync.WaitGroup
	for i := range 8 {
		all.Go(func() {
			for j := range 200 {
				kids := make([]api.Tree, (i*j)%100)
				got, size, f := m.Fill(tree.Of(tree.Blank(), tree.Of(tree.Of(kids...))))
				if f != (api.Fault{}) || size != len(kids)+1 || got.Kids[0].Num != uint64(len(kids)) {
					t.Errorf("%d, %v", size, f)
				}
			}
		})
	}
	all.Wait()
}

func TestExamples(t *testing.T) {
	m := maker(t, "main = { n: u8 = size(d); d: bytes[n]; };")
	if got, size, f := m.Fill(tree.Of(tree.Blank(), tree.Data(1, 2, 3, 4, 5))); f != (api.Fault{}) || size != 6 || got.Kids[0].Num != 5 || got.Kids[0].Blank {
		t.Errorf("%+v, %d, %v", got, size, f)
	}
	if _, _, f := m.Fill(tree.Of(tree.Num(9), tree.Data(1, 2, 3, 4, 5))); f != (api.Fault{Code: api.ErrLimit, At: 2}) {
		t.Error(f)
	}
}
