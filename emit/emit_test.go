package emit_test

import (
	"bytes"
	"encoding/hex"
	"hash/crc32"
	"math"
	"reflect"
	"slices"
	"strings"
	"sync"
	"testing"

	"guipure/api"
	"guipure/emit"
	"guipure/sample"
	"guipure/scope"
	"guipure/spec"
	"guipure/tree"
	"guipure/valid"
)

// right is a tree that is written, by a specification: its bytes, with blanks where one likes, and it, filled in.
type right struct{ text, tree, bytes, filled string }

// wantRight tells if trees aren't written so; an empty text is that of the ones ahead, an empty tree is the one that is filled in.
func wantRight(t *testing.T, list []right) {
	t.Helper()
	text := ""
	for _, w := range list {
		if w.text != "" {
			text = w.text
		}
		if w.filled == "" {
			w.filled = w.tree
		}
		want, err := hex.DecodeString(strings.ReplaceAll(w.bytes, " ", ""))
		if err != nil {
			t.Fatal(err)
		}
		b, x := set(t, read(t, text)), grown(t, w.tree)
		got, filled, f := b.writer.Write(x, len(want))
		if f != (api.Fault{}) || !bytes.Equal(got, want) || tree.Text(filled) != w.filled {
			t.Errorf("%s by %s: %x, %s, %v, want %s, %s", w.tree, text, got, tree.Text(filled), f, w.bytes, w.filled)
		}
		b.want(x, math.MaxInt)
		b.wantBlanks(x)
	}
}

// wrong is a tree of which an error is told at a part, if it may have so many bytes.
type wrong struct {
	text, tree string
	most       int
	code       api.Errno
	at         int
}

// wantWrong tells if that isn't told.
func wantWrong(t *testing.T, list []wrong) {
	t.Helper()
	text := ""
	for _, w := range list {
		if w.text != "" {
			text = w.text
		}
		b, x, want := set(t, read(t, text)), grown(t, w.tree), api.Fault{Code: w.code, At: w.at}
		got, filled, f := b.writer.Write(x, w.most)
		if f != want || got != nil || !reflect.DeepEqual(filled, api.Tree{}) {
			t.Errorf("%s by %s: %x, %s, %v, want %v", w.tree, text, got, tree.Text(filled), f, want)
		}
		b.want(x, w.most)
	}
}

// P24.1

func TestNew(t *testing.T) {
	for _, text := range sample.Refused() {
		s := read(t, text)
		_, want := valid.New(s)
		if w, f := emit.New(s); w != nil || f != want || f.Code == api.OK {
			t.Errorf("%s: %v, %v, want %v", text, w, f, want)
		}
	}
	if w, f := emit.New(api.Spec{}); w != nil || f != (api.Fault{Code: api.ErrLong}) {
		t.Errorf("of nothing: %v, %v", w, f)
	}
}

// Layer 18's call is a Writer's, too.
func TestFill(t *testing.T) {
	b := set(t, read(t, "main = { n: u8 = size(d); d: bytes[n]; c: u32be = crc(n..d); };"))
	for _, text := range []string{"0(_0,0:0708,_0)", "0(2,0:0708,5)", "0(3,0:0708,5)", "0(_0,0:0708,4294967296)", "0"} {
		x := grown(t, text)
		want, many, fault := b.filler.Fill(x)
		if got, size, f := b.writer.Fill(x); f != fault || size != many || !tree.Same(got, want) {
			t.Errorf("%s: %s, %d, %v, want %s, %d, %v", text, tree.Text(got), size, f, tree.Text(want), many, fault)
		}
	}
}

func TestFaultsOfFill(t *testing.T) {
	const text = "main = { n: u8 1..9 = size(d); x: u8; d: bytes[n]; t: /ab/; c: u32be = crc(n..d); };"
	wantWrong(t, []wrong{
		{text, "0(_0,5,0:0708,0:6162,_0)", 8, api.ErrLong, 0},
		{"", "0(_0,256,0:0708,0:6162,_0)", 100, api.ErrValue, 2},
		{"", "0(_0,256,0:0708,0:6162,5)", 0, api.ErrValue, 2}, // ahead of all else
		{"", "0(_0,5,0,0:6162,_0)", 100, api.ErrValue, 1},
		{"", "0(3,5,0:0708,0:6162,_0)", 100, api.ErrLimit, 3},
		{"", "0(_0,5,0:0708,0:6163,7)", 100, api.ErrToken, 4},
		{"", "0(_0,_0,0:0708,0:6162,7)", 100, api.ErrBlank, 2},
		{"", "0(_0,5,0:0708,0:6162,_7)", 100, api.ErrShape, 5},
		{"", "0(_0,5,0:0708,0:6162,4294967296)", 100, api.ErrValue, 5},
		{"", "0(_0,5,0:0708,0:6162)", 100, api.ErrShape, 0},
		{"", "0", 100, api.ErrShape, 0},
		{"main = { n: u8; s: switch n { 0: u8; }; };", "0(1,0(5))", 100, api.ErrCase, 2},
		{"main = { n: u64be; d: bytes[2*n]; };", "0(18446744073709551615,0)", 100, api.ErrOver, 2},
		{"main = oneof { u8 0..3 | /z/ };", "2(0)", 100, api.ErrShape, 0},
	})
}

func TestMost(t *testing.T) {
	const text = "main = { n: u8 = size(d); d: bytes[n]; c: u32be = crc(n..d); };"
	wantWrong(t, []wrong{
		{text, "0(_0,0:0708,_0)", 6, api.ErrLong, 0},
		{"", "0(_0,0:0708,_0)", 0, api.ErrLong, 0},
		{"", "0(_0,0:0708,_0)", -1, api.ErrLong, 0},
		{"", "0(_0,0:0708,_0)", math.MinInt, api.ErrLong, 0},
		{"", "0(_0,0:0708,5)", 6, api.ErrLong, 0}, // ahead of the checksum
		{"", "0(_0,0:0708,5)", 7, api.ErrSum, 3},
		{"main = many u8;", "0", -1, api.ErrLong, 0}, // no bytes are more than that
		{"", "0", math.MinInt, api.ErrLong, 0},
		{"", "0(1,2)", 1, api.ErrLong, 0},
	})
	wantRight(t, []right{
		{text, "0(_0,0:0708,_0)", "02 07 08 bd5f1389", "0(2,0:0708,3177124745)"},
		{"main = many u8;", "0", "", ""},
		{"", "0(1)", "01", ""},
	})
}

func TestSums(t *testing.T) {
	const chain = "main = { a: u8; s: u32be = crc(a..a); t: u32be = crc(s..s); u: u32be = crc(a..t); };"
	wantRight(t, []right{
		{chain, "0(0,_0,_0,_0)", "00 d202ef8d e4726ade 6bdbbf3d", "0(0,3523407757,3832703710,1809563453)"},
		{"", "0(0,3523407757,3832703710,1809563453)", "00 d202ef8d e4726ade 6bdbbf3d", ""},
		{"", "0(0,_0,3832703710,_0)", "00 d202ef8d e4726ade 6bdbbf3d", "0(0,3523407757,3832703710,1809563453)"},
		{"main = { d: bytes[9]; c: u32be = crc(d..d); };", "0(0:313233343536373839,_0)", "313233343536373839 cbf43926", "0(0:313233343536373839,3421780262)"},
		{"main = { x: u8; a: bytes[4]; b: bytes[5]; y: u8; c: u32le = crc(a..b); };", "0(255,0:31323334,0:3536373839,255,_0)", "ff 31323334 3536373839 ff 2639f4cb", "0(255,0:31323334,0:3536373839,255,3421780262)"},
		{"main = { e: empty; x: u8; c: u32be = crc(e..e); };", "0(0,7,_0)", "07 00000000", "0(0,7,0)"}, // that of no bytes
		{"", "0(0,7,0)", "07 00000000", ""},
	})
	wantWrong(t, []wrong{
		{chain, "0(0,3523407758,_0,_0)", 100, api.ErrSum, 2},
		{"", "0(0,0,3832703710,1809563453)", 100, api.ErrSum, 2},
		{"", "0(0,_0,0,_0)", 100, api.ErrSum, 3},
		{"", "0(0,_0,3832703711,0)", 100, api.ErrSum, 3},
		{"", "0(0,_0,_0,1809563452)", 100, api.ErrSum, 4},
		{"", "0(0,3523407757,3832703710,1809563452)", 100, api.ErrSum, 4},
		{"main = { a: bytes[4]; b: bytes[5]; c: u32le = crc(a..b); };", "0(0:31323334,0:3536373839,641332427)", 100, api.ErrSum, 3}, // its bytes the other way round
		{"main = { e: empty; x: u8; c: u32be = crc(e..e); };", "0(0,7,1)", 100, api.ErrSum, 3},
		{"main = chain { { k: u8 0..9; c: u32be = crc(k..k); } | last u8 10..20 };", "0(0(0(0,1)),1(10))", 100, api.ErrSum, 4},
		{"", "0(0(0(0,_0)),0(0(0,_0)),0(0(0,1)),1(10))", 100, api.ErrSum, 12},
		{"main = many oneof { { k: u8 0..9; c: u32be = crc(k..k); } };", "0(0(0(0,_0)),0(0(0,1)))", 100, api.ErrSum, 8},
	})
	const mixed = "a = { k: u8; c: u32be = crc(k..k); }; main = { n: u8 = size(w); m: u8; w: within[n] times[2] a; t: /xy/; e: empty; s: switch m { 1: a; else: empty; }; c: u32be = crc(n..s); };"
	wantWrong(t, []wrong{
		{mixed, "0(_0,1,0(0(0(0,1),0(0,1))),0:7879,0,0(0(0,1)),1)", 100, api.ErrSum, 7},
		{"", "0(_0,1,0(0(0(0,_0),0(0,1))),0:7879,0,0(0(0,1)),1)", 100, api.ErrSum, 10},
		{"", "0(_0,1,0(0(0(0,_0),0(0,3523407757))),0:7879,0,0(0(0,1)),1)", 100, api.ErrSum, 16},
		{"", "0(_0,1,0(0(0(0,_0),0(0,_0))),0:7879,0,0(0(0,_0)),1)", 100, api.ErrSum, 17},
		{"", "0(_0,2,0(0(0(0,_0),0(0,_0))),0:7879,0,0(0),1)", 100, api.ErrSum, 15},
	})
}

// P24.2

func TestBytes(t *testing.T) {
	wantRight(t, []right{
		{"main = u8;", "255", "ff", ""},
		{"main = u16be;", "258", "0102", ""},
		{"main = u16le;", "258", "0201", ""},
		{"main = u24le;", "66051", "030201", ""},
		{"main = u64be;", "18446744073709551614", "fffffffffffffffe", ""},
		{"main = u64le;", "1", "0100000000000000", ""},
		{"main = varint;", "0", "00", ""},
		{"", "127", "7f", ""},
		{"", "300", "ac02", ""},
		{"", "18446744073709551615", "ffffffffffffffffff01", ""},
		{"main = varint lenient;", "300", "ac02", ""}, // in as few as can be
		{"main = zigzag;", "3", "03", ""},             // as it is without a sign
		{"main = /a[0-9]*b/;", "0:613162", "613162", ""},
		{"main = bytes[3];", "0:0001ff", "0001ff", ""},
		{"main = bytes[0];", "0", "", ""},
		{"main = empty;", "0", "", ""},
		{"main = { a: u8; b: { c: u16be; d: empty; }; e: u8; };", "0(1,0(2,0),3)", "01 0002 03", ""},
		{"main = { n: u8 = count(t); t: times[n] u16le; };", "0(_0,0(1,2))", "02 0100 0200", "0(2,0(1,2))"},
		{"main = many varint;", "0(5,500,0)", "05 f403 00", ""},
		{"main = { n: varint = size(w); w: within[n] many u8; };", "0(_0,0(0(1,2,3)))", "03 010203", "0(3,0(0(1,2,3)))"},
		{"main = { n: u8; s: switch n % 4 { 0: empty; 3: u16be; }; };", "0(7,0(500))", "07 01f4", ""},
		{"", "0(8,0(0))", "08", ""},
		{"main = { n: u8; s: switch n { 0: empty; else: u16le; }; };", "0(7,0(500))", "07 f401", ""},
		{"", "0(0,0(0))", "00", ""},
		{"main = oneof { u8 0..9 | /x[0-9];/ };", "0(9)", "09", ""},
		{"", "1(0:78353b)", "78353b", ""},
		{"main = chain { u8 0..9 | last u16le 300..300 | last /x/ };", "0(0(1),0(2),1(300))", "01 02 2c01", ""},
		{"", "0(2(0:78))", "78", ""},
		{"a = { n: u8; s: switch n { 1: u16be; else: u16le; }; }; main = { n: u8; x: a; m: u8; y: a; s: switch n { 1: u16le; else: u16be; }; };", "0(1,0(2,0(3)),1,0(1,0(3)),0(3))", "01 02 0300 01 01 0003 0300", ""},
		{"main = { n: u8; x: { m: u8; s: switch n { 1: u16be; else: u16le; }; }; t: times[2] { o: u8; s: switch o { 1: u16be; else: u16le; }; }; };", "0(1,0(2,0(3)),0(0(1,0(4)),0(2,0(4))))", "01 02 0003 01 0004 02 0400", ""},
		{"main = { n: u8 = size(d); s: switch n { 2: u16be; else: u16le; }; d: bytes[n]; };", "0(_0,0(3),0:0708)", "02 0003 0708", "0(2,0(3),0:0708)"}, // by what is filled in
	})
}

// Three formats whose bytes are known.
func TestFormats(t *testing.T) {
	formats := sample.Texts()
	wantRight(t, []right{
		{formats[2], "0(0:89504e470d0a1a0a,0(0(_0,0:49484452,0:00000001000000010802000000,_0),0(_0,0:49454e44,0,_0)))", "89504e470d0a1a0a 0000000d 49484452 00000001 00000001 08 02 00 00 00 907753de 00000000 49454e44 ae426082", "0(0:89504e470d0a1a0a,0(0(13,0:49484452,0:00000001000000010802000000,2423739358),0(0,0:49454e44,0,2923585666)))"},
		{formats[1], "0(0(8,0(150)),0(18,0(0(_0,0:6162))))", "08 9601 12 02 6162", "0(0(8,0(150)),0(18,0(0(2,0:6162))))"},
		{formats[3], "0(258,_0,_0,0(0(0(0(0(_0,0:6162)),0(0(_0,0:63)),1(0)),1)),0(0(2(49156))))", "0102 01 01 02 6162 01 63 00 0001 c004", "0(258,1,1,0(0(0(0(0(2,0:6162)),0(0(1,0:63)),1(0)),1)),0(0(2(49156))))"},
	})
	wantWrong(t, []wrong{
		{formats[2], "0(0:89504e470d0a1a0a,0(0(_0,0:49484452,0:00000001000000010802000000,_0),0(_0,0:49454e44,0,2923585667)))", 100, api.ErrSum, 12},
		{"", "0(0:89504e470d0a1a0a,0(0(_0,0:49484452,0:00000001000000010802000000,1),0(_0,0:49454e44,0,2923585667)))", 57, api.ErrSum, 7},
	})
}

func TestGreatOnes(t *testing.T) {
	b := set(t, read(t, "main = { n: u32be = size(d); d: bytes[n]; c: u32be = crc(n..d); };"))
	for many, want := range map[int]api.Fault{
		valid.MaxSize - 8: {},
		valid.MaxSize - 7: {Code: api.ErrLong},
	} {
		d := bytes.Repeat([]byte{7, 8}, many)[:many]
		got, filled, f := b.writer.Write(tree.Of(tree.Blank(), api.Tree{Data: d}, tree.Blank()), math.MaxInt)
		if f != want || f.Code != api.OK && (got != nil || !reflect.DeepEqual(filled, api.Tree{})) {
			t.Fatalf("%d: %v, want %v", many, f, want)
		}
		if f.Code == api.OK && (len(got) != valid.MaxSize || filled.Kids[2].Num != uint64(crc32.ChecksumIEEE(got[:many+4]))) {
			t.Errorf("%d: %d bytes, %d", many, len(got), filled.Kids[2].Num)
		}
	}
	b = set(t, read(t, "a = { x: u8; c: u32be = crc(x..x); }; main = many a;"))
	part := tree.Of(tree.Num(0), tree.Blank())
	list := api.Tree{Kids: slices.Repeat([]api.Tree{part}, 100000)}
	if f := b.want(list, 500000); f != (api.Fault{}) {
		t.Error(f)
	}
	list.Kids[99999] = tree.Of(tree.Num(0), tree.Num(5))
	if f := b.want(list, 500000); f != (api.Fault{Code: api.ErrSum, At: 300000}) {
		t.Error(f)
	}
	if f := b.want(list, 499999); f != (api.Fault{Code: api.ErrLong}) {
		t.Error(f)
	}
}

// As deep as can be, and deeper.
func TestDeepOnes(t *testing.T) {
	s := read(t, "main = { x: u8; c: u32be = crc(x..x); };")
	x := tree.Of(tree.Num(0), tree.Blank())
	deep := 2
	for ; deep < scope.MaxNest; deep++ {
		s.Nodes = append(s.Nodes, api.Node{Kind: api.Within, Expr: api.Expr{Add: 5}, Kids: []int{len(s.Nodes) - 1}})
		x = tree.Of(x)
	}
	s.Defs[0].Type = len(s.Nodes) - 1
	b := set(t, s)
	if f := b.want(x, 5); f != (api.Fault{}) {
		t.Error(f)
	}
	b.wantBlanks(x)
	for ; deep < 1<<16; deep++ {
		x = api.Tree{Kids: []api.Tree{x}} // as it is
	}
	if _, _, f := b.writer.Write(x, 5); f != (api.Fault{Code: api.ErrShape}) {
		t.Error(f)
	}
	if _, f := b.writer.Blanks(x); f != (api.Fault{Code: api.ErrShape}) {
		t.Error(f)
	}
}

// P24.3

func TestBlanks(t *testing.T) {
	text := ""
	for _, w := range []struct{ text, tree, want string }{
		{"main = { n: u8 = size(d); d: bytes[n]; c: u32be = crc(n..d); };", "0(2,0:0708,3177124745)", "0(_0,0:0708,_0)"},
		{"", "0(2,0:0708,5)", "0(_0,0:0708,_0)"}, // whatever the checksum is
		{"", "0(_0,0:0708,_0)", "0(_0,0:0708,_0)"},
		{"", "0(0,0,0)", "0(_0,0,_0)"},
		{"main = { n: u8 = count(t); m: u8; t: times[n] u8; d: bytes[m]; };", "0(_0,1,0(5,6),0:07)", "0(_0,1,0(5,6),0:07)"},
		{"main = { n: u8 = size(w); w: within[n] { k: u8 = count(t); t: times[k] u8; s: u32le = crc(t..t); }; };", "0(_0,0(0(2,0(5,6),9)))", "0(_0,0(0(_0,0(5,6),_0)))"},
		{"main = { n: u8 = size(d); s: switch n { 0: { a: u8; b: bytes[2]; }; 1: { m: u8 = count(t); t: times[m] u8; }; }; d: bytes[n]; };", "0(_0,0(0(_0,0(7,8))),0:05)", "0(_0,0(0(_0,0(7,8))),0:05)"},
		{"", "0(1,0(0(2,0(7,8))),0:05)", "0(_0,0(0(_0,0(7,8))),0:05)"},
		{"", "0(0,0(0(2,0:0708)),0)", "0(_0,0(0(2,0:0708)),0)"}, // that isn't derived
		{"a = { m: u8 = size(d); d: bytes[m]; }; main = { l: times[2] a; o: oneof { a }; c: chain { last a }; };", "0(0(0(1,0:07),0(0,0)),0(0(1,0:08)),0(0(0(1,0:09))))", "0(0(0(_0,0:07),0(_0,0)),0(0(_0,0:08)),0(0(0(_0,0:09))))"},
		{"main = u8;", "7", "7"},
		{"main = { a: u8; };", "0(7)", "0(7)"},
	} {
		if w.text != "" {
			text = w.text
		}
		b, x := set(t, read(t, text)), grown(t, w.tree)
		if got, f := b.writer.Blanks(x); f != (api.Fault{}) || tree.Text(got) != w.want {
			t.Errorf("%s by %s: %s, %v, want %s", w.tree, text, tree.Text(got), f, w.want)
		}
		b.wantBlanks(x)
	}
}

func TestBlanksOfWrongOnes(t *testing.T) {
	b := set(t, read(t, "main = { n: u8 1..9 = size(d); x: u8; d: bytes[n]; c: u32be = crc(n..d); };"))
	for text, want := range map[string]api.Fault{
		"0(_0,5,0,_0)":               {Code: api.ErrValue, At: 1},
		"0(_0,_0,0:07,_0)":           {Code: api.ErrBlank, At: 2},
		"0(2,5,0:07,_0)":             {Code: api.ErrLimit, At: 3},
		"0(_0,5,0:07,4294967296)":    {Code: api.ErrValue, At: 4},
		"0(_0,5,0:07)":               {Code: api.ErrShape},
		"0(_0,5,0:0708,_0(0),0,0,0)": {Code: api.ErrShape},
	} {
		if got, f := b.writer.Blanks(grown(t, text)); f != want || !reflect.DeepEqual(got, api.Tree{}) {
			t.Errorf("%s: %s, %v, want %v", text, tree.Text(got), f, want)
		}
	}
	great := set(t, read(t, "main = { n: u32be = size(d); d: bytes[n]; };"))
	x := tree.Of(tree.Blank(), api.Tree{Data: make([]byte, valid.MaxSize-3)})
	if got, f := great.writer.Blanks(x); f != (api.Fault{Code: api.ErrLong}) || !reflect.DeepEqual(got, api.Tree{}) {
		t.Error(f)
	}
}

// P1, P2

func TestRawOnes(t *testing.T) {
	for _, s := range sample.Wrongs() {
		kept := spec.Clone(s)
		_, want := valid.New(s)
		if w, f := emit.New(s); f != want || (w == nil) != (f.Code != api.OK) {
			t.Errorf("New of %+v: %v, want %v", s, f, want)
		}
		if !reflect.DeepEqual(s, kept) {
			t.Errorf("what was handed in was changed: %+v", s)
		}
	}
}

// A Writer keeps nothing of what was handed in, and what it answers is new memory.
func TestWritersAreTheirOwn(t *testing.T) {
	s := read(t, "main = { n: u8 = size(d); d: bytes[n]; e: /a/; x: oneof { u8 0..9 | /b/ }; c: chain { u8 0..9 | last /b/ }; y: switch n { 3: u16be; else: u8; }; z: u32be = crc(n..y); };")
	w, _ := emit.New(s)
	for i := range s.Nodes {
		clear(s.Nodes[i].Kids)
		clear(s.Nodes[i].Fields)
		clear(s.Nodes[i].Last)
		clear(s.Nodes[i].Cases)
		s.Nodes[i] = api.Node{Kind: api.Empty}
	}
	s.Defs[0].Type = 77
	x := grown(t, "0(_0,0:010203,0:61,1(0:62),0(0(5),1(0:62)),0(9),_0)")
	x.Kids[1].Data = append(x.Kids[1].Data, 9, 9)[:3]
	x.Kids = append(x.Kids, tree.Num(99))[:7]
	kept := tree.Text(x)
	body := []byte{3, 1, 2, 3, 'a', 'b', 5, 'b', 0, 9}
	sum := uint64(crc32.ChecksumIEEE(body))
	want := tree.Text(tree.Of(append(grown(t, "0(3,0:010203,0:61,1(0:62),0(0(5),1(0:62)),0(9))").Kids, tree.Num(sum))...))
	blank := "0(_0,0:010203,0:61,1(0:62),0(0(5),1(0:62)),0(9),_0)"
	for range 2 {
		b, got, f := w.Write(x, 14)
		if f != (api.Fault{}) || len(b) != 14 || !bytes.Equal(b[:10], body) || tree.Text(got) != want || tree.Text(x) != kept {
			t.Fatalf("%x, %s, %v", b, tree.Text(got), f)
		}
		sample.Spoil(got)
		clear(b[:cap(b)])
		empty, f := w.Blanks(x)
		if f != (api.Fault{}) || tree.Text(empty) != blank || tree.Text(x) != kept {
			t.Fatalf("%s, %v", tree.Text(empty), f)
		}
		sample.Spoil(empty)
		if tree.Text(x) != kept || x.Kids[:8][7].Num != 99 || x.Kids[1].Data[:4][3] != 9 {
			t.Errorf("%s shares memory with an answer", tree.Text(x))
		}
	}
	b, got, _ := w.Write(x, 14)
	empty, _ := w.Blanks(x)
	sample.Spoil(x)
	if !bytes.Equal(b[:10], body) || tree.Text(got) != want || tree.Text(empty) != blank {
		t.Errorf("%x, %s, %s share memory with what was handed in", b, tree.Text(got), tree.Text(empty))
	}
	sample.Spoil(got)
	if !bytes.Equal(b[:10], body) || tree.Text(empty) != blank {
		t.Errorf("%x, %s share memory with an answer", b, tree.Text(empty))
	}
}

// Parts that share memory are parts all the same.
func TestPartsThatShareMemory(t *testing.T) {
	b := set(t, read(t, "main = times[2] { n: u8 = size(w); w: within[n] many u8; c: u32be = crc(n..w); };"))
	one := grown(t, "0(_0,0(0(1,2)),_0)")
	got, filled, f := b.writer.Write(api.Tree{Kids: []api.Tree{one, one}}, 100)
	if f != (api.Fault{}) || len(got) != 14 || !bytes.Equal(got[:7], got[7:]) || tree.Text(one) != "0(_0,0(0(1,2)),_0)" {
		t.Errorf("%x, %v", got, f)
	}
	want := tree.Text(filled.Kids[1])
	sample.Spoil(filled.Kids[0])
	if tree.Text(filled.Kids[1]) != want {
		t.Errorf("two parts of an answer share memory: %s", tree.Text(filled.Kids[1]))
	}
}

// A refused tree leaves nothing behind.
func TestAfterRefusals(t *testing.T) {
	b := set(t, read(t, "main = { n: u8 = size(d); d: bytes[n]; c: u32be = crc(n..d); };"))
	for _, text := range []string{"0(_0,0:0102,7)", "0(5,0:0102,_0)", "0"} {
		b.writer.Write(grown(t, text), 100)
		b.writer.Write(grown(t, text), 0)
		b.writer.Blanks(grown(t, text))
		got, filled, f := b.writer.Write(grown(t, "0(_0,0:0708,_0)"), 7)
		if f != (api.Fault{}) || !bytes.Equal(got[:3], []byte{2, 7, 8}) || filled.Kids[2].Num != uint64(crc32.ChecksumIEEE(got[:3])) {
			t.Errorf("behind %s: %x, %s, %v", text, got, tree.Text(filled), f)
		}
	}
}

// Several at the same time.
func TestWriteByMany(t *testing.T) {
	b := set(t, read(t, sample.Texts()[4]))
	all := (&sample.Maker{Seed: 74}).Pairs(b.spec, 50)
	var group sync.WaitGroup
	for range 8 {
		group.Go(func() {
			for _, p := range all {
				x, f := b.writer.Blanks(p.Tree)
				got, filled, g := b.writer.Write(x, len(p.Bytes))
				if f != (api.Fault{}) || g != f || !bytes.Equal(got, p.Bytes) || !tree.Same(filled, p.Tree) {
					t.Errorf("%s: %x, %v, %v", tree.Text(p.Tree), got, f, g)
				}
			}
		})
	}
	group.Wait()
}

func TestExamples(t *testing.T) {
	w, f := emit.New(read(t, "main = { n: u8 = size(d); d: bytes[n]; c: u32be = crc(n..d); };"))
	if f != (api.Fault{}) {
		t.Fatal(f)
	}
	x := tree.Of(tree.Blank(), tree.Data(7, 8), tree.Blank())
	got, filled, f := w.Write(x, 7)
	sum := crc32.ChecksumIEEE([]byte{2, 7, 8})
	want := []byte{2, 7, 8, byte(sum >> 24), byte(sum >> 16), byte(sum >> 8), byte(sum)}
	if f != (api.Fault{}) || !bytes.Equal(got, want) || !tree.Same(filled, tree.Of(tree.Num(2), tree.Data(7, 8), tree.Num(uint64(sum)))) {
		t.Errorf("%x, %s, %v", got, tree.Text(filled), f)
	}
}
