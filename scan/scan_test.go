package scan_test

import (
	"bytes"
	"encoding/hex"
	"math"
	"reflect"
	"slices"
	"strconv"
	"strings"
	"sync"
	"testing"

	"guipure/api"
	"guipure/sample"
	"guipure/scan"
	"guipure/scope"
	"guipure/show"
	"guipure/tree"
)

// raw: the bytes of digits to the base 16, with blanks where one likes.
func raw(t *testing.T, digits string) []byte {
	t.Helper()
	b, err := hex.DecodeString(strings.ReplaceAll(digits, " ", ""))
	if err != nil {
		t.Fatal(err)
	}
	return b
}

// right is bytes that are a tree, by a specification.
type right struct{ text, bytes, tree string }

// wantRight tells if bytes aren't the trees; an empty text is that of the ones ahead.
func wantRight(t *testing.T, list []right) {
	t.Helper()
	text := ""
	for _, w := range list {
		if w.text != "" {
			text = w.text
		}
		s, b := read(t, text), raw(t, w.bytes)
		r := program(t, s)
		got, _, f := scan.Scan(r, b, sample.Ample())
		if f != (api.Fault{}) || tree.Text(got) != w.tree {
			t.Errorf("%s by %s: %s, %v, want %s", w.bytes, text, tree.Text(got), f, w.tree)
		}
		wantScan(t, r, judge(s), b, sample.Ample())
	}
}

// wrong is bytes of which an error is told at a byte, under some caps (the zero ones: ample ones).
type wrong struct {
	text, bytes string
	code        api.Errno
	at          int
	caps        api.Caps
}

// wantWrong tells if that isn't told.
func wantWrong(t *testing.T, list []wrong) {
	t.Helper()
	text := ""
	for _, w := range list {
		if w.text != "" {
			text = w.text
		}
		if w.caps == (api.Caps{}) {
			w.caps = sample.Ample()
		}
		s, b, want := read(t, text), raw(t, w.bytes), api.Fault{Code: w.code, At: w.at}
		r := program(t, s)
		got, _, f := scan.Scan(r, b, w.caps)
		if f != want || !reflect.DeepEqual(got, api.Tree{}) {
			t.Errorf("%s by %s, %+v: %s, %v, want %v", w.bytes, text, w.caps, tree.Text(got), f, want)
		}
		wantScan(t, r, judge(s), b, w.caps)
	}
}

// P21.1

func TestNumbers(t *testing.T) {
	wantRight(t, []right{
		{"main = u8;", "00", "0"},
		{"", "ff", "255"},
		{"main = u8 3..7;", "03", "3"},
		{"", "07", "7"},
		{"main = u16be;", "01 02", "258"},
		{"main = u16le;", "01 02", "513"},
		{"main = u24be 66051..66051;", "01 02 03", "66051"},
		{"main = u64be;", "ff ff ff ff ff ff ff fe", "18446744073709551614"},
		{"main = u64le;", "01 00 00 00 00 00 00 80", "9223372036854775809"},
		{"main = varint;", "00", "0"},
		{"", "7f", "127"},
		{"", "ac 02", "300"},
		{"", "ff ff ff ff ff ff ff ff ff 01", "18446744073709551615"},
		{"main = varint lenient;", "80 00", "0"},
		{"", "80 80 80 80 80 80 80 80 80 00", "0"},
		{"", "ac 82 00", "300"},
		{"main = zigzag;", "03", "3"}, // as it is without a sign
		{"a = u16be; b = a; main = b;", "00 05", "5"},
	})
	wantWrong(t, []wrong{
		{text: "main = u8 3..7;", bytes: "02", code: api.ErrValue, at: 0},
		{bytes: "08", code: api.ErrValue, at: 0},
		{bytes: "08 00", code: api.ErrValue, at: 0}, // ahead of what is behind it
		{bytes: "", code: api.ErrEnd, at: 0},
		{text: "main = { a: u8; b: u16le 5..256; };", bytes: "00 04 00", code: api.ErrValue, at: 1},
		{bytes: "00 01 01", code: api.ErrValue, at: 1},
		{bytes: "00 04", code: api.ErrEnd, at: 2},
		{bytes: "00", code: api.ErrEnd, at: 1},
		{text: "main = { a: u8; b: varint 5..300; };", bytes: "00 04", code: api.ErrValue, at: 1},
		{bytes: "00 ad 02", code: api.ErrValue, at: 1},
		{bytes: "00 ac", code: api.ErrEnd, at: 2},
		{bytes: "00 ac 00", code: api.ErrCanon, at: 1},
		{bytes: "00 80 80 80 80 80 80 80 80 80 02", code: api.ErrVar, at: 1},
		{bytes: "00 80 80 80 80 80 80 80 80 80 80", code: api.ErrVar, at: 1}, // as soon as that byte comes
		{bytes: "00 80 80 80 80 80 80 80 80 80", code: api.ErrEnd, at: 10},
		{bytes: "00 80 80 80 80 80 80 80 80 80 00", code: api.ErrCanon, at: 1},
		{bytes: "00 80 80 80 80 80 80 80 80 80 01", code: api.ErrValue, at: 1},
		{text: "main = varint lenient 1..9;", bytes: "80 80 80 80 80 80 80 80 80 02", code: api.ErrVar, at: 0},
		{bytes: "80 00", code: api.ErrValue, at: 0},
	})
}

func TestBytes(t *testing.T) {
	wantRight(t, []right{
		{"main = /a[0-9]*b/;", "61 62", "0:6162"},
		{"", "61 30 39 62", "0:61303962"},
		{"main = /\\x00{2}|[^\\x00]/;", "ff", "0:ff"},
		{"main = { t: /[a-z]+;/; u: /x|yz/; };", "61 62 3b 79 7a", "0(0:61623b,0:797a)"},
		{"main = bytes[3];", "00 01 ff", "0:0001ff"},
		{"main = bytes[0];", "", "0"},
		{"main = { n: u8; d: bytes[2*n+1]; };", "00 07", "0(0,0:07)"},
		{"", "02 07 08 09 0a 0b", "0(2,0:0708090a0b)"},
		{"main = { n: varint; d: bytes[18446744073709551615*n]; };", "00", "0(0,0)"},
		{"main = empty;", "", "0"},
	})
	wantWrong(t, []wrong{
		{text: "main = { x: u8; t: /a[0-9]*b/; };", bytes: "00 62", code: api.ErrToken, at: 1},
		{bytes: "00 61 30 61", code: api.ErrToken, at: 3},
		{bytes: "00 61 30", code: api.ErrEnd, at: 3},
		{bytes: "00", code: api.ErrEnd, at: 1},
		{bytes: "00 61 62 62", code: api.ErrRest, at: 3},
		{text: "main = { x: u8; d: bytes[3]; };", bytes: "00 01 02", code: api.ErrEnd, at: 3},
		{bytes: "00", code: api.ErrEnd, at: 1},
		{bytes: "00 01 02 03 04", code: api.ErrRest, at: 4},
		{text: "main = { n: varint; d: bytes[18446744073709551615*n]; };", bytes: "02", code: api.ErrOver, at: 1},
		{bytes: "01 00 00", code: api.ErrEnd, at: 3}, // so many there are never
		{text: "main = { n: varint; d: bytes[n+18446744073709551615]; };", bytes: "01", code: api.ErrOver, at: 1},
		{text: "main = empty;", bytes: "00", code: api.ErrRest, at: 0},
		{text: "main = bytes[0];", bytes: "00", code: api.ErrRest, at: 0},
	})
}

func TestRecords(t *testing.T) {
	wantRight(t, []right{
		{"main = { a: u8; b: { c: u16be; d: empty; }; e: u8; };", "01 00 02 03", "0(1,0(2,0),3)"},
		{"main = { d: bytes[9]; c: u32be = crc(d..d); };", "31 32 33 34 35 36 37 38 39 cb f4 39 26", "0(0:313233343536373839,3421780262)"},
		{"main = { a: bytes[4]; b: bytes[5]; c: u32le = crc(a..b); };", "31 32 33 34 35 36 37 38 39 26 39 f4 cb", "0(0:31323334,0:3536373839,3421780262)"},
		{"main = { x: u8; a: bytes[4]; b: bytes[5]; y: u8; c: u32be = crc(a..b); };", "ff 31 32 33 34 35 36 37 38 39 ff cb f4 39 26", "0(255,0:31323334,0:3536373839,255,3421780262)"},
		{"main = { e: empty; x: u8; c: u32be = crc(e..e); };", "07 00 00 00 00", "0(0,7,0)"}, // that of no bytes
		{"main = { a: u8; s: u32be = crc(a..a); t: u32be = crc(s..s); u: u32be = crc(a..t); };", "00 d2 02 ef 8d e4 72 6a de 6b db bf 3d", "0(0,3523407757,3832703710,1809563453)"},
	})
	wantWrong(t, []wrong{
		{text: "main = { d: bytes[2]; x: u8; c: u32be = crc(d..d); z: u8; };", bytes: "00 00 01 41 d9 12 fe 00", code: api.ErrSum, at: 3},
		{bytes: "00 00 01 41 d9 12 fe", code: api.ErrSum, at: 3},
		{bytes: "00 00 01 41 d9 12", code: api.ErrEnd, at: 6},
		{bytes: "01 00 01 41 d9 12 ff 00", code: api.ErrSum, at: 3},
		{bytes: "00 00 02 41 d9 12 ff", code: api.ErrEnd, at: 7}, // that byte isn't among them
		{text: "main = { a: u8; s: u32be = crc(a..a); t: u32be = crc(s..s); };", bytes: "00 d2 02 ef 8d e4 72 6a df", code: api.ErrSum, at: 5},
		{bytes: "00 d2 02 ef 8e e4 72 6a de", code: api.ErrSum, at: 1},
	})
}

func TestLists(t *testing.T) {
	wantRight(t, []right{
		{"main = times[3] u8 1..9;", "01 02 03", "0(1,2,3)"},
		{"main = times[0] u8;", "", "0"},
		{"main = { n: u8; t: times[2*n] varint; };", "01 05 f4 03", "0(1,0(5,500))"},
		{"", "00", "0(0,0)"},
		{"main = times[2] times[2] u8;", "01 02 03 04", "0(0(1,2),0(3,4))"},
		{"main = many u16le;", "", "0"},
		{"", "01 00 02 00", "0(1,2)"},
		{"main = { a: u8; l: { m: many u8; }; };", "01 02 03", "0(1,0(0(2,3)))"},
		{"main = within[3] many u8;", "01 02 03", "0(0(1,2,3))"},
		{"main = { w: within[3] many u8; m: many u8; };", "01 02 03 04 05", "0(0(0(1,2,3)),0(4,5))"},
		{"main = within[0] many u8;", "", "0(0)"},
	})
	wantWrong(t, []wrong{
		{text: "main = { n: varint; t: times[9223372036854775808*n] u8 1..9; };", bytes: "02", code: api.ErrOver, at: 1},
		{bytes: "01 05 05 05", code: api.ErrEnd, at: 4}, // so often it comes never
		{bytes: "01 05 00", code: api.ErrValue, at: 2},
		{bytes: "00 05", code: api.ErrRest, at: 1},
		{text: "main = times[2] u8;", bytes: "01", code: api.ErrEnd, at: 1},
		{bytes: "01 02 03", code: api.ErrRest, at: 2},
		{text: "main = many u16le;", bytes: "01 00 02", code: api.ErrEnd, at: 3},
		{text: "main = within[3] many u16le;", bytes: "01 00 02", code: api.ErrLimit, at: 2},
		{text: "main = within[3] many u8;", bytes: "01 02", code: api.ErrEnd, at: 2}, // it goes on up to the limit
	})
}

func TestWithin(t *testing.T) {
	wantRight(t, []right{
		{"main = within[2] u16be;", "00 07", "0(7)"},
		{"main = { n: u8; w: within[n+1] { a: u8; b: bytes[n]; }; };", "02 07 08 09", "0(2,0(0(7,0:0809)))"},
		{"main = within[0] empty;", "", "0(0)"},
		{"main = within[3] { a: within[2] u16be; b: within[1] u8; };", "00 01 02", "0(0(0(1),0(2)))"},
		{"a = many u8; main = { x: within[2] a; y: within[1] a; };", "01 02 03", "0(0(0(1,2)),0(0(3)))"},
	})
	wantWrong(t, []wrong{
		{text: "main = { x: u8; w: within[3] u16be; y: u8; };", bytes: "00 00 07 09", code: api.ErrLimit, at: 3}, // short of it
		{bytes: "00 00 07", code: api.ErrLimit, at: 3},
		{text: "main = { x: u8; w: within[1] u16be; };", bytes: "00 00 07", code: api.ErrLimit, at: 1}, // beyond it
		{text: "main = { x: u8; w: within[3] { a: u8; b: within[3] bytes[3]; }; };", bytes: "00 01 02 03 04", code: api.ErrLimit, at: 2},
		{text: "main = { x: u8; w: within[3] { a: u8; b: within[2] bytes[3]; }; };", bytes: "00 01 02 03 04", code: api.ErrLimit, at: 2},
		{text: "main = { x: u8; w: within[5] { a: u8; b: within[2] bytes[3]; }; };", bytes: "00 01 02 03 04 05", code: api.ErrLimit, at: 2}, // the inner one
		{text: "main = { n: varint; w: within[9223372036854775808*n] many u8; };", bytes: "02", code: api.ErrOver, at: 1},
		{bytes: "01 00 00", code: api.ErrEnd, at: 3},
		{text: "main = within[18446744073709551615] bytes[4611686018427387903];", bytes: "00", code: api.ErrEnd, at: 1},
		{text: "main = within[18446744073709551615] bytes[4611686018427387904];", bytes: "00", code: api.ErrLimit, at: 0}, // so far no limit is
		{text: "main = { x: u8; w: within[4611686018427387903] bytes[4611686018427387902]; };", bytes: "00 00", code: api.ErrEnd, at: 2},
		{text: "main = { x: u8; w: within[4611686018427387903] bytes[4611686018427387903]; };", bytes: "00 00", code: api.ErrLimit, at: 1},
		{text: "main = within[18446744073709551615] within[18446744073709551615] many u8;", bytes: "00", code: api.ErrLimit, at: 0},
		{text: "main = within[18446744073709551615] within[4611686018427387903] many u8;", bytes: "00", code: api.ErrEnd, at: 1},
		{text: "main = within[2] empty;", bytes: "00 00", code: api.ErrLimit, at: 0},
		{text: "a = u16be; main = within[1] a;", bytes: "00 00", code: api.ErrLimit, at: 0}, // a name's type is within it, too
		{text: "main = within[2] u16be;", bytes: "00 00 00", code: api.ErrRest, at: 2},
	})
}

func TestSwitches(t *testing.T) {
	wantRight(t, []right{
		{"main = { n: u8; s: switch n { 0: empty; 7: u16be; }; };", "00", "0(0,0(0))"},
		{"", "07 01 00", "0(7,0(256))"},
		{"main = { n: u8; s: switch n { 0: empty; else: u16be; }; };", "09 01 00", "0(9,0(256))"},
		{"main = { n: u8; s: switch n % 3 { 0: empty; 2: u16be; }; };", "09", "0(9,0(0))"},
		{"", "08 01 00", "0(8,0(256))"},
		{"main = { n: u8; s: switch n % 3 { 0: empty; else: u16be; }; };", "07 01 00", "0(7,0(256))"},
		{"main = { n: u64be; s: switch n { 18446744073709551615: u8; }; };", "ff ff ff ff ff ff ff ff 05", "0(18446744073709551615,0(5))"},
		{"main = { n: u8; m: u8; t: times[2] { k: u8; s: switch k { 0: switch m { 0: u8; 1: u16be; }; 1: bytes[n]; }; }; };", "02 01 01 05 06 00 07 08", "0(2,1,0(0(1,0(0:0506)),0(0,0(0(1800)))))"},
	})
	wantWrong(t, []wrong{
		{text: "main = { n: u8; s: switch n { 0: empty; 7: u16be; }; };", bytes: "01", code: api.ErrCase, at: 1},
		{bytes: "08 00 00", code: api.ErrCase, at: 1},
		{bytes: "07 00", code: api.ErrEnd, at: 2},
		{bytes: "00 00", code: api.ErrRest, at: 1},
		{text: "main = { n: u8; s: switch n % 3 { 0: empty; 2: u16be; }; };", bytes: "07", code: api.ErrCase, at: 1},
	})
}

func TestChoices(t *testing.T) {
	wantRight(t, []right{
		{"main = oneof { u8 0..9 | /x[0-9];/ };", "09", "0(9)"},
		{"", "78 35 3b", "1(0:78353b)"},
		{"main = oneof { u8 0..9 | oneof { u16be 2560..5119 | varint lenient 20..20 } };", "0a 00", "1(0(2560))"},
		{"", "14", "1(1(20))"},
		{"", "94 00", "1(1(20))"},
		{"main = chain { u8 0..9 | last /x/ | last u8 10..20 };", "78", "0(1(0:78))"},
		{"", "00 09 01 14", "0(0(0),0(9),0(1),2(20))"},
		{"a = { n: u8 1..9; d: bytes[n]; }; main = chain { a | last u8 0..0 };", "01 ff 02 00 00 00", "0(0(0(1,0:ff)),0(0(2,0:0000)),1(0))"},
		{"main = { l: within[3] chain { u8 0..9 | last /x/ }; m: u8; };", "01 02 78 ff", "0(0(0(0(1),0(2),1(0:78))),255)"},
		{"main = chain { u8 0..9 | last { x: /x/; l: many u8; } };", "01 78 02 03", "0(0(1),1(0(0:78,0(2,3))))"},
	})
	wantWrong(t, []wrong{
		{text: "main = { a: u8; o: oneof { u8 0..9 | /x[0-9];/ }; };", bytes: "00 0a", code: api.ErrChoice, at: 1},
		{bytes: "00", code: api.ErrEnd, at: 1},
		{bytes: "00 78 78", code: api.ErrToken, at: 2},
		{bytes: "00 09 00", code: api.ErrRest, at: 2},
		{text: "main = oneof { u16be 2560..2561 };", bytes: "0a 02", code: api.ErrValue, at: 0},
		{text: "main = chain { u8 0..9 | last /x/ | last u8 10..20 };", bytes: "00 01", code: api.ErrEnd, at: 2},
		{bytes: "00 01 15", code: api.ErrChoice, at: 2},
		{bytes: "78 00", code: api.ErrRest, at: 1},
	})
}

// P21.2

func TestLimits(t *testing.T) {
	wantWrong(t, []wrong{
		{text: "main = { x: u8; w: within[3] u32be; };", bytes: "00", code: api.ErrLimit, at: 1}, // at once: none of its bytes is there
		{text: "main = { x: u8; w: within[3] bytes[4]; };", bytes: "00", code: api.ErrLimit, at: 1},
		{text: "main = { x: u8; w: within[3] bytes[3]; };", bytes: "00", code: api.ErrEnd, at: 1},
		{text: "main = { x: u8; w: within[2] { y: u8; v: varint; }; };", bytes: "00 00 80 01", code: api.ErrLimit, at: 2},
		{bytes: "00 00 80", code: api.ErrLimit, at: 2},
		{bytes: "00 00", code: api.ErrEnd, at: 2},
		{text: "main = { x: u8; w: within[1] { y: u8; v: varint; }; };", bytes: "00 00", code: api.ErrLimit, at: 2},
		{text: "main = { x: u8; w: within[3] { y: u8; t: /abc/; }; };", bytes: "00 00 61 62 63", code: api.ErrLimit, at: 2},
		{bytes: "00 00 61 62", code: api.ErrLimit, at: 2},
		{bytes: "00 00 61", code: api.ErrEnd, at: 3},
		{bytes: "00 00 61 63", code: api.ErrToken, at: 3},
		{text: "main = { x: u8; w: within[1] { y: u8; t: /abc/; }; };", bytes: "00 00 61", code: api.ErrLimit, at: 2},
		{text: "main = { x: u8; w: within[1] { y: u8; o: oneof { u8 }; }; };", bytes: "00 00 61", code: api.ErrLimit, at: 2},
		{bytes: "00 00", code: api.ErrLimit, at: 2},
		{text: "main = { x: u8; w: within[1] { y: u8; o: chain { u8 0..9 | last /x/ }; }; };", bytes: "00 00 61", code: api.ErrLimit, at: 2},
		{text: "main = { x: u8; w: within[2] chain { u8 0..9 | last /x/ }; };", bytes: "00 00 01 78", code: api.ErrLimit, at: 3},
	})
}

func TestInput(t *testing.T) {
	input := func(many int) api.Caps {
		out := sample.Ample()
		out.Input = many
		return out
	}
	wantWrong(t, []wrong{
		{text: "main = u32be;", bytes: "00 00 00 00", code: api.ErrInput, at: 3, caps: input(3)},
		{bytes: "00 00 00", code: api.ErrEnd, at: 3, caps: input(3)},
		{bytes: "00 00", code: api.ErrEnd, at: 2, caps: input(3)},
		{bytes: "00 00", code: api.ErrInput, at: 0, caps: input(0)},
		{bytes: "00 00", code: api.ErrInput, at: 0, caps: input(-5)},
		{bytes: "00 00", code: api.ErrInput, at: 0, caps: input(math.MinInt)},
		{bytes: "", code: api.ErrEnd, at: 0, caps: input(0)},
		{bytes: "00 00 00 00 00", code: api.ErrRest, at: 4, caps: input(4)}, // it isn't read
		{text: "main = { x: u8; d: bytes[5]; };", bytes: "00 01 02 03 04 05", code: api.ErrInput, at: 3, caps: input(3)},
		{bytes: "00 01 02", code: api.ErrEnd, at: 3, caps: input(3)},
		{bytes: "00 01 02 03", code: api.ErrEnd, at: 4, caps: input(5)},
		{text: "main = { x: u8; v: varint; };", bytes: "00 80 01", code: api.ErrInput, at: 2, caps: input(2)},
		{bytes: "00 80 00", code: api.ErrInput, at: 2, caps: input(2)}, // ahead of what it is
		{bytes: "00 80", code: api.ErrEnd, at: 2, caps: input(2)},
		{text: "main = { x: u8; t: /abc/; };", bytes: "00 61 63", code: api.ErrInput, at: 2, caps: input(2)},
		{text: "main = { x: u8; o: oneof { u8 0..9 }; };", bytes: "00 10", code: api.ErrInput, at: 1, caps: input(1)},
		{bytes: "00 10", code: api.ErrChoice, at: 1, caps: input(2)},
		{text: "main = many u8;", bytes: "00 01 02", code: api.ErrInput, at: 2, caps: input(2)},
		{text: "main = within[2] u32be;", bytes: "00 00", code: api.ErrLimit, at: 0, caps: input(1)},
		{text: "main = within[1] varint;", bytes: "80 00", code: api.ErrLimit, at: 0, caps: input(1)},
	})
	for _, w := range []struct{ text, bytes string }{
		{"main = u32be;", "00 00 00 00"}, {"main = { x: u8; d: bytes[5]; };", "00 01 02 03 04 05"}, {"main = many varint;", "05 80 01"},
		{"main = { t: /abc/; e: empty; d: bytes[0]; l: many u8; };", "61 62 63"}, {"main = empty;", ""},
	} {
		s, b := read(t, w.text), raw(t, w.bytes)
		if f := wantScan(t, program(t, s), judge(s), b, input(len(b))); f.Code != api.OK {
			t.Errorf("%s by %s: %v", w.bytes, w.text, f)
		}
	}
}

// P21.3

func TestDepth(t *testing.T) {
	depth := func(deep int) api.Caps {
		out := sample.Ample()
		out.Depth = deep
		return out
	}
	wantWrong(t, []wrong{
		{text: "main = u8;", bytes: "00", code: api.ErrDepth, at: 0, caps: depth(0)},
		{bytes: "00", code: api.ErrDepth, at: 0, caps: depth(-1)},
		{bytes: "00", code: api.ErrDepth, at: 0, caps: depth(math.MinInt)},
		{bytes: "", code: api.ErrDepth, at: 0, caps: depth(0)},
		{text: "main = { x: u8; };", bytes: "00", code: api.ErrDepth, at: 0, caps: depth(1)},
		{text: "main = { x: u8; y: bytes[1]; z: { a: u8; }; };", bytes: "00 01 02", code: api.ErrDepth, at: 2, caps: depth(2)},
		{text: "main = { x: u8; y: { a: empty; }; };", bytes: "00", code: api.ErrDepth, at: 1, caps: depth(2)},
		{text: "main = { x: u8; y: { a: bytes[0]; }; };", bytes: "00", code: api.ErrDepth, at: 1, caps: depth(2)},
		{text: "main = { x: u8; y: times[1] /a/; };", bytes: "00 61", code: api.ErrDepth, at: 1, caps: depth(2)},
		{text: "main = { x: u8; y: many varint; };", bytes: "00 61", code: api.ErrDepth, at: 1, caps: depth(2)},
		{text: "main = { x: u8; y: within[1] u8; };", bytes: "00 61", code: api.ErrDepth, at: 1, caps: depth(2)},
		{text: "main = { x: u8; y: switch x { 0: u8; }; };", bytes: "00 61", code: api.ErrDepth, at: 1, caps: depth(2)},
		{text: "main = { x: u8; y: oneof { u8 }; };", bytes: "00 61", code: api.ErrDepth, at: 1, caps: depth(2)},
		{text: "main = { x: u8; y: chain { last u8 }; };", bytes: "00 61", code: api.ErrDepth, at: 1, caps: depth(2)},
		{bytes: "00 61", code: api.ErrDepth, at: 1, caps: depth(3)}, // its parts are two deeper
		{text: "a = { x: u8; }; b = a; main = { y: b; };", bytes: "00", code: api.ErrDepth, at: 0, caps: depth(2)},
	})
	for deep, text := range map[int]string{
		1: "main = u8;", 2: "main = { x: u8; };", 3: "main = many { x: u8; };", 4: "main = { y: chain { last u8 }; };",
	} {
		s := read(t, text)
		if f := wantScan(t, program(t, s), judge(s), []byte{0}, depth(deep)); f.Code != api.OK {
			t.Errorf("%s, %d deep: %v", text, deep, f)
		}
		if f := wantScan(t, program(t, s), judge(s), []byte{0}, depth(deep-1)); f.Code != api.ErrDepth {
			t.Errorf("%s, %d deep: %v", text, deep-1, f)
		}
	}
	s := read(t, "a = u8; b = a; c = b; main = c;") // Uses are no parts
	if f := wantScan(t, program(t, s), judge(s), []byte{0}, api.Caps{Input: 1, Depth: 1, Tokens: 1}); f.Code != api.OK {
		t.Error(f)
	}
	s = read(t, "main = many u8;") // there is none
	if f := wantScan(t, program(t, s), judge(s), nil, depth(1)); f.Code != api.OK {
		t.Error(f)
	}
}

func TestTokens(t *testing.T) {
	tokens := func(many int) api.Caps {
		out := sample.Ample()
		out.Tokens = many
		return out
	}
	wantWrong(t, []wrong{
		{text: "main = u8;", bytes: "00", code: api.ErrTokens, at: 0, caps: tokens(0)},
		{bytes: "00", code: api.ErrTokens, at: 0, caps: tokens(-1)},
		{bytes: "00", code: api.ErrTokens, at: 0, caps: tokens(math.MinInt)},
		{bytes: "00", code: api.ErrDepth, at: 0, caps: api.Caps{Input: 9}}, // ahead of it
		{text: "main = { x: u8; y: bytes[1]; z: { a: u8; }; };", bytes: "00 01 02", code: api.ErrTokens, at: 0, caps: tokens(1)},
		{bytes: "00 01 02", code: api.ErrTokens, at: 1, caps: tokens(2)},
		{bytes: "00 01 02", code: api.ErrTokens, at: 2, caps: tokens(3)},
		{bytes: "00 01 02", code: api.ErrTokens, at: 2, caps: tokens(4)},
		{bytes: "00 01 02", code: api.ErrDepth, at: 2, caps: api.Caps{Input: 9, Depth: 2, Tokens: 4}},
		{text: "main = many u8;", bytes: "00 01 02 03", code: api.ErrTokens, at: 2, caps: tokens(3)},
		{text: "main = chain { u8 0..9 | last u8 10..20 };", bytes: "00 01 0a", code: api.ErrTokens, at: 1, caps: tokens(3)},
		{bytes: "00 01 0a", code: api.ErrTokens, at: 1, caps: tokens(4)},
		{bytes: "00 01 0a", code: api.ErrTokens, at: 2, caps: tokens(5)},
		{bytes: "00 01 0a", code: api.ErrTokens, at: 2, caps: tokens(6)},
		{text: "main = { x: u8; e: empty; f: empty; };", bytes: "00", code: api.ErrTokens, at: 1, caps: tokens(3)},
		{text: "main = { x: u8; w: within[1] u8; };", bytes: "00 01", code: api.ErrTokens, at: 1, caps: tokens(2)},
		{bytes: "00 01", code: api.ErrTokens, at: 1, caps: tokens(3)},
		{text: "main = { x: u8; w: switch x { 0: u8; }; };", bytes: "00 01", code: api.ErrTokens, at: 1, caps: tokens(3)},
		{text: "main = { x: u8; t: times[2] u8; };", bytes: "00 01 02", code: api.ErrTokens, at: 2, caps: tokens(4)},
	})
	for _, text := range sample.Texts() { // just as many as a tree has
		s := read(t, text)
		m := &sample.Maker{Seed: 43}
		for _, p := range m.Pairs(s, 20) {
			b := p.Bytes
			just := api.Caps{Input: len(b), Depth: tree.Depth(p.Tree), Tokens: tree.Parts(p.Tree)}
			if f := wantScan(t, program(t, s), judge(s), b, just); f.Code != api.OK {
				t.Errorf("%x by %s: %v", b, text, f)
			}
			less := just
			less.Tokens--
			if f := wantScan(t, program(t, s), judge(s), b, less); f.Code != api.ErrTokens {
				t.Errorf("%x by %s: %v", b, text, f)
			}
			less = just
			less.Depth--
			if f := wantScan(t, program(t, s), judge(s), b, less); f.Code != api.ErrDepth {
				t.Errorf("%x by %s: %v", b, text, f)
			}
		}
	}
}

// P21.4

func TestSteps(t *testing.T) {
	for _, w := range []struct {
		text, bytes string
		want        int
	}{
		{"main = u8;", "00", 2},
		{"main = empty;", "", 3},
		{"main = { n: u8 = size(d); d: bytes[n]; t: /ab/; };", "01 00 61 62", 6},
		{"main = { a: u8; c: u32be = crc(a..a); };", "00 d2 02 ef 8d", 8},
		{"main = times[3] u8;", "00 01 02", 13},
		{"main = times[0] u8;", "", 4},
		{"main = many varint;", "", 4},
		{"main = many varint;", "80 01 05", 10},
		{"main = within[2] bytes[2];", "00 00", 4},
		{"main = oneof { u8 0..1 | u8 2..3 };", "00", 5},
		{"main = oneof { u8 0..1 | u8 2..3 };", "02", 5},
		{"main = chain { u8 0..1 | last u8 2..3 };", "02", 7},
		{"main = chain { u8 0..1 | last u8 2..3 };", "00 01 02", 15},
		{"a = u8; b = a; main = { x: a; y: b; };", "00 01", 11},
		{"main = { n: u8; x: switch n { 0: u8; else: empty; }; };", "00 05", 9},
		{"main = { n: u8; x: switch n { 0: u8; else: empty; }; };", "01", 9},
	} {
		s, b := read(t, w.text), raw(t, w.bytes)
		_, steps, f := scan.Scan(program(t, s), b, sample.Ample())
		if steps != w.want || f.Code != api.OK {
			t.Errorf("%s by %s: %d, %v, want %d", w.bytes, w.text, steps, f, w.want)
		}
		wantScan(t, program(t, s), judge(s), b, sample.Ample())
	}
}

// P1, P2

// Answers are new memory.
func TestAnswersAreTheirOwn(t *testing.T) {
	s := read(t, "main = { t: /a[a-z]*;/; l: times[2] bytes[2]; c: chain { u8 0..9 | last /x/ }; };")
	r := program(t, s)
	b := raw(t, "61 62 3b 01 02 03 04 05 06 78")
	want := "0(0:61623b,0(0:0102,0:0304),0(0(5),0(6),1(0:78)))"
	first, _, _ := scan.Scan(r, b, sample.Ample())
	again, _, _ := scan.Scan(r, b, sample.Ample())
	kept := bytes.Clone(b)
	sample.Spoil(first)
	if !bytes.Equal(b, kept) || tree.Text(again) != want {
		t.Errorf("%x, %s share memory with an answer", b, tree.Text(again))
	}
	clear(b)
	if tree.Text(again) != want {
		t.Errorf("%s shares memory with what was handed in", tree.Text(again))
	}
	got, _, _ := scan.Scan(r, kept, sample.Ample())
	data := got.Kids[1].Kids[0].Data
	_ = append(data[:len(data):cap(data)], 0xee, 0xee, 0xee) // its spare room is its own, too
	_ = append(got.Kids[1].Kids[:2:cap(got.Kids[1].Kids)], tree.Num(0xee))
	if tree.Text(got) != want {
		t.Errorf("parts of an answer share memory: %s", tree.Text(got))
	}
}

// As deep as a specification may be, and many bytes.
func TestGreatOnes(t *testing.T) {
	s := read(t, "main = within[1] u8;")
	for len(s.Nodes) < scope.MaxNest {
		s.Nodes = append(s.Nodes, api.Node{Kind: api.Within, Expr: api.Expr{Add: 1}, Kids: []int{len(s.Nodes) - 1}})
	}
	s.Defs[0].Type = len(s.Nodes) - 1
	for deep, want := range map[int]api.Errno{scope.MaxNest: api.OK, scope.MaxNest - 1: api.ErrDepth} {
		if f := wantScan(t, program(t, s), judge(s), []byte{7}, api.Caps{Input: 1, Depth: deep, Tokens: scope.MaxNest}); f.Code != want {
			t.Errorf("%d deep: %v, want %d", deep, f, want)
		}
	}
	text := "a0 = u8;" // names in names
	for i := range 62 {
		text += " a" + strconv.Itoa(i+1) + " = { x: a" + strconv.Itoa(i) + "; };"
	}
	text += " main = many a62;"
	s = read(t, text)
	if f := wantScan(t, program(t, s), judge(s), []byte{1, 2, 3}, sample.Ample()); f.Code != api.OK {
		t.Errorf("%s: %v", show.Text(s), f)
	}
	s = read(t, "main = { n: u32be = size(d); d: bytes[n]; s: u32be = crc(d..d); l: many u16be; };")
	b := slices.Concat([]byte{0, 16, 0, 0}, make([]byte, 1<<20), raw(t, "a738ea1c"), make([]byte, 1<<20))
	got, steps, f := scan.Scan(program(t, s), b, api.Caps{Input: len(b), Depth: 3, Tokens: 1<<19 + 5})
	if f != (api.Fault{}) || len(got.Kids[1].Data) != 1<<20 || len(got.Kids[3].Kids) != 1<<19 || steps != 12+3<<19 {
		t.Errorf("%d bytes: %v, %d parts, %d steps", len(b), f, tree.Parts(got), steps)
	}
}

// A program may be used by several at the same time.
func TestScanByMany(t *testing.T) {
	s := read(t, sample.Texts()[4])
	r := program(t, s)
	all := (&sample.Maker{Seed: 44}).Pairs(s, 50)
	var group sync.WaitGroup
	for range 8 {
		group.Go(func() {
			for _, p := range all {
				if got, _, f := scan.Scan(r, p.Bytes, sample.Ample()); f != (api.Fault{}) || !tree.Same(got, p.Tree) {
					t.Errorf("%x: %s, %v", p.Bytes, tree.Text(got), f)
				}
			}
		})
	}
	group.Wait()
}

// Caps of all sorts.
func TestRawCaps(t *testing.T) {
	for _, text := range sample.Texts() {
		s := read(t, text)
		r, o := program(t, s), judge(s)
		m := &sample.Maker{Seed: 45}
		for _, p := range append(m.Pairs(s, 3), sample.Pair{}, sample.Pair{Bytes: []byte{}}) {
			for _, caps := range sample.AnyCaps() {
				wantScan(t, r, o, p.Bytes, caps)
			}
		}
	}
}

func TestExamples(t *testing.T) {
	text := "main = { n: u8 1..9 = size(d); d: bytes[n]; };"
	wantRight(t, []right{{text, "02 07 08", "0(2,0:0708)"}})
	wantWrong(t, []wrong{
		{text: text, bytes: "02 07", code: api.ErrEnd, at: 2},
		{bytes: "00", code: api.ErrValue, at: 0},
		{bytes: "01 07 00", code: api.ErrRest, at: 2},
	})
}
