package wire_test

import (
	"bytes"
	"fmt"
	"math"
	"slices"
	"strings"
	"testing"

	"guipure/api"
	"guipure/dns"
	"guipure/parse"
	"guipure/png"
	"guipure/proto"
	"guipure/sample"
	"guipure/shelf"
	"guipure/tree"
	"guipure/wire"
)

// sized is a specification of a number, and as many bytes.
const sized = "main = { n: u8 = size(d); d: bytes[n]; };"

// P30.1

func TestCaps(t *testing.T) {
	if got := wire.Caps(); got != (api.Caps{Input: 1 << 20, Depth: 256, Tokens: 1 << 16}) {
		t.Errorf("%+v", got)
	}
	if wire.MaxLine != 131072 || wire.MaxOut != 65536 {
		t.Error("MaxLine, MaxOut")
	}
}

// What comes with an engine is there.
func TestNew(t *testing.T) {
	e := wire.New()
	if got := e.Names(); !slices.Equal(got, []string{"png", "proto", "dns"}) {
		t.Errorf("%q", got)
	}
	if n := e.Lines(); n != 0 {
		t.Errorf("%d lines", n)
	}
	m := &sample.Maker{Seed: 30}
	for name, text := range map[string]string{"png": png.Text, "proto": proto.Text, "dns": dns.Text} {
		s, f := parse.Parse(text)
		if f.Code != api.OK {
			t.Fatal(f)
		}
		for _, p := range m.Pairs(s, 50) {
			if got, f := e.Scan(name, p.Bytes); f != (api.Fault{}) || !tree.Same(got, p.Tree) {
				t.Errorf("Scan of %s, %x: %s, %v", name, p.Bytes, tree.Text(got), f)
			}
			if b, got, f := e.Serialise(name, p.Tree); f != (api.Fault{}) || !tree.Same(got, p.Tree) {
				t.Errorf("Serialise of %s, %s: %x, %s, %v", name, tree.Text(p.Tree), b, tree.Text(got), f)
			}
		}
	}
}

// item: what layer 26 keeps of a text.
func item(t *testing.T, text string) *shelf.Item {
	t.Helper()
	s := shelf.New()
	if e := s.Text("x", text); e != api.OK {
		t.Fatal(e)
	}
	return s.Get("x")
}

// wantItem tells if an engine doesn't do with a name as layer 26 does with its text.
func wantItem(t *testing.T, m *sample.Maker, e *wire.Engine, name, text string, caps api.Caps) {
	t.Helper()
	x := item(t, text)
	var pairs []sample.Pair
	if x.Check() == (api.Fault{}) {
		s, _ := parse.Parse(text)
		pairs = m.Pairs(s, 20)
	}
	pairs = append(pairs, sample.Pair{Bytes: []byte{1, 7}, Tree: tree.Of(tree.Blank(), tree.Data(7))}, sample.Pair{})
	for _, p := range pairs {
		for _, b := range [][]byte{p.Bytes, m.Garbled(p.Bytes)} {
			want, told := x.Scan(b, caps)
			if got, f := e.Scan(name, b); f != told || !tree.Same(got, want) {
				t.Fatalf("Scan of %x by %s: %s, %v, want %s, %v", b, text, tree.Text(got), f, tree.Text(want), told)
			}
		}
		for _, y := range []api.Tree{p.Tree, m.Spoilt(p.Tree)} {
			b, want, told := x.Write(y, 1<<16)
			if c, got, f := e.Serialise(name, y); f != told || !bytes.Equal(c, b) || !tree.Same(got, want) {
				t.Fatalf("Serialise of %s by %s: %x, %s, %v, want %x, %s, %v", tree.Text(y), text, c, tree.Text(got), f, b, tree.Text(want), told)
			}
		}
	}
}

func TestCompile(t *testing.T) {
	m := &sample.Maker{Seed: 31}
	e := wire.New()
	want := []string{"png", "proto", "dns"}
	wrong := append(sample.Refused(), "", "main = u8", "main = 5$;", "u8 = u8;", strings.Repeat("#", 1<<16+1))
	for i, text := range append(sample.Texts(), wrong...) {
		name := fmt.Sprint("n", i)
		told := item(t, text).Check()
		if f := e.Compile(name, text); f != told {
			t.Errorf("%s: %v, want %v", text, f, told)
		}
		want = append(want, name) // it is kept all the same
		if got := e.Names(); !slices.Equal(got, want) {
			t.Errorf("%q, want %q", got, want)
		}
		wantItem(t, m, e, name, text, wire.Caps())
	}
	if n := e.Lines(); n != 0 { // there were none
		t.Errorf("%d lines", n)
	}
}

// What is refused changes nothing.
func TestCompileRefuses(t *testing.T) {
	e := wire.New()
	e.Compile("a", sized)
	look := func() {
		t.Helper()
		if got := e.Names(); !slices.Equal(got, []string{"png", "proto", "dns", "a"}) {
			t.Errorf("%q", got)
		}
		if got, f := e.Scan("a", []byte{1, 7}); f != (api.Fault{}) || tree.Text(got) != "0(1,0:07)" {
			t.Errorf("%s, %v", tree.Text(got), f)
		}
	}
	for _, text := range []string{"main = u8;", "main = u8", "", sized} {
		for _, name := range []string{"", " ", "b c", "b ", "\x7f", "\x00", "é", "b\n", strings.Repeat("x", 33)} {
			if f := e.Compile(name, text); f != (api.Fault{Code: api.ErrForm}) {
				t.Errorf("%q: %v", name, f)
			}
			look()
		}
		for _, name := range []string{"a", "png", "proto", "dns"} {
			if f := e.Compile(name, text); f != (api.Fault{Code: api.ErrTwice}) {
				t.Errorf("%q: %v", name, f)
			}
			look()
		}
	}
	for _, name := range []string{strings.Repeat("x", 32), "!", "~", "PNG"} {
		if f := e.Compile(name, sized); f != (api.Fault{}) {
			t.Errorf("%q: %v", name, f)
		}
	}
	for i := len(e.Names()); i < shelf.MaxItems; i++ {
		if f := e.Compile(fmt.Sprint("n", i), "main = u8;"); f != (api.Fault{}) {
			t.Errorf("%d: %v", i, f)
		}
	}
	was := e.Names()
	for _, text := range []string{sized, "main = u8"} {
		if f := e.Compile("more", text); f != (api.Fault{Code: api.ErrLong}) {
			t.Error(f)
		}
		if f := e.Compile("a", text); f != (api.Fault{Code: api.ErrTwice}) { // ahead of that
			t.Error(f)
		}
	}
	if got := e.Names(); len(got) != 64 || !slices.Equal(got, was) {
		t.Errorf("%q", got)
	}
}

func TestMissing(t *testing.T) {
	e := wire.New()
	for _, name := range []string{"", "a", "PNG", "png ", " png", "dn", "\xff", strings.Repeat("x", 99)} {
		if got, f := e.Scan(name, []byte{0}); f != (api.Fault{Code: api.ErrMissing}) || !tree.Same(got, api.Tree{}) {
			t.Errorf("Scan of %q: %s, %v", name, tree.Text(got), f)
		}
		b, got, f := e.Serialise(name, tree.Num(5))
		if f != (api.Fault{Code: api.ErrMissing}) || len(b) != 0 || !tree.Same(got, api.Tree{}) {
			t.Errorf("Serialise of %q: %x, %s, %v", name, b, tree.Text(got), f)
		}
	}
}

func TestLimit(t *testing.T) {
	m := &sample.Maker{Seed: 32}
	e, fresh := wire.New(), wire.New()
	text := sample.Texts()[4]
	e.Compile("a", text)
	fresh.Compile("a", text)
	list := []api.Caps{{Input: 10, Depth: 5, Tokens: 12}, sample.Ample(), wire.Caps()}
	edges := sample.AnyCaps()
	for i := 0; i < len(edges); i += 7 { // not all of them, as there are many
		list = append(list, edges[i])
	}
	for _, caps := range list {
		e.Limit(caps)
		wantItem(t, m, e, "a", text, caps)
		wantItem(t, m, fresh, "a", text, wire.Caps()) // those of each engine are its own
	}
}

// The caps of a new engine, at their edges; no specification is so deep as they let be.
func TestNewCaps(t *testing.T) {
	e := wire.New()
	e.Compile("bytes", "main = { n: u32be; d: bytes[n]; };")
	e.Compile("parts", "main = many u8;")
	blob := func(many int) []byte {
		return append([]byte{byte(many >> 24), byte(many >> 16), byte(many >> 8), byte(many)}, make([]byte, many)...)
	}
	for _, w := range []struct {
		name  string
		bytes []byte
		want  api.Fault
	}{
		{"bytes", blob(1<<20 - 4), api.Fault{}},
		{"bytes", blob(1<<20 - 3), api.Fault{Code: api.ErrInput, At: 1 << 20}},
		{"parts", make([]byte, 1<<16-1), api.Fault{}},
		{"parts", make([]byte, 1<<16), api.Fault{Code: api.ErrTokens, At: 1<<16 - 1}},
	} {
		if _, f := e.Scan(w.name, w.bytes); f != w.want {
			t.Errorf("%s, %d bytes: %v, want %v", w.name, len(w.bytes), f, w.want)
		}
	}
}

// A tree is written as so many bytes at most.
func TestMaxOut(t *testing.T) {
	e := wire.New()
	e.Compile("a", "main = { n: u32be = size(d); d: bytes[n]; };")
	of := func(many int) api.Tree { return tree.Of(tree.Blank(), tree.Data(make([]byte, many)...)) }
	if b, got, f := e.Serialise("a", of(wire.MaxOut-4)); f != (api.Fault{}) || len(b) != wire.MaxOut || tree.Parts(got) != 3 {
		t.Errorf("%d bytes, %v", len(b), f)
	}
	if b, got, f := e.Serialise("a", of(wire.MaxOut-3)); f != (api.Fault{Code: api.ErrLong}) || len(b) != 0 || !tree.Same(got, api.Tree{}) {
		t.Errorf("%d bytes, %v", len(b), f)
	}
}

// P30.2

func TestHex(t *testing.T) {
	for want, b := range map[string][]byte{
		"_": nil, "00": {0}, "0f10ff": {15, 16, 255}, "09a0": {9, 160}, "616263": []byte("abc"), "0000": {0, 0},
	} {
		if got := wire.Hex(b); got != want {
			t.Errorf("%x: %q, want %q", b, got, want)
		}
		if got, e := wire.Bytes(want); e != api.OK || !bytes.Equal(got, b) {
			t.Errorf("%q: %x, %v", want, got, e)
		}
	}
	if got := wire.Hex([]byte{}); got != "_" {
		t.Errorf("%q", got)
	}
	for c := range 256 {
		b := []byte{byte(c), byte(255 - c)}
		if got := wire.Hex(b); got != fmt.Sprintf("%x", b) {
			t.Errorf("%x: %q", b, got)
		}
		if got, e := wire.Bytes(fmt.Sprintf("%x", b)); e != api.OK || !bytes.Equal(got, b) {
			t.Errorf("%x: %x, %v", b, got, e)
		}
	}
}

func TestBytesRefuses(t *testing.T) {
	for _, s := range []string{"", " ", "0", "000", "0g", "g0", "AB", "aB", "Ab", "__", "_00", "00_", "00 00", " 00", "00 ", "0x00", "-1", "00\n", "é", "\x00\x00", "\xff\xff", "`a", "a`", "/0", "0:", "@0", "{}"} {
		if b, e := wire.Bytes(s); e != api.ErrForm || len(b) != 0 {
			t.Errorf("%q: %x, %v", s, b, e)
		}
	}
	for a := range 256 { // each two bytes
		for b := range 256 {
			s := string([]byte{byte(a), byte(b)})
			got, e := wire.Bytes(s)
			if want := rows.MatchString(s); want != (e == api.OK) || e == api.OK && wire.Hex(got) != s || e != api.OK && e != api.ErrForm {
				t.Errorf("%q: %x, %v", s, got, e)
			}
		}
	}
}

// What is answered is new memory.
func TestBytesAreTheirOwn(t *testing.T) {
	for range 2 {
		x, _ := wire.Bytes("0102")
		y, _ := wire.Bytes("0102")
		x = x[:cap(x)]
		for i := range x {
			x[i] = 9
		}
		if !bytes.Equal(y, []byte{1, 2}) {
			t.Errorf("%x", y)
		}
	}
	b := []byte{1, 2, 3}
	if wire.Hex(b[:2]); !bytes.Equal(b, []byte{1, 2, 3}) {
		t.Errorf("%x", b)
	}
}

func TestFault(t *testing.T) {
	for want, f := range map[string]api.Fault{
		"error 0 at 0":     {},
		"error 5 at 9":     {Code: api.ErrForm, At: 9},
		"error 220 at 0":   {Code: api.ErrClosed},
		"error 1 at 12345": {Code: api.ErrRange, At: 12345},
		"error -7 at -1":   {Code: -7, At: -1},
		"error 9223372036854775807 at -9223372036854775808": {Code: math.MaxInt, At: math.MinInt},
	} {
		if got := wire.Fault(f); got != want {
			t.Errorf("%v: %q, want %q", f, got, want)
		}
	}
}

// P1, P2

// What is handed in stays as it is, and what is answered is new memory.
func TestAnswersAreTheirOwn(t *testing.T) {
	e := wire.New()
	e.Compile("a", "main = { n: u8 = size(d); d: bytes[n]; l: many u8; };")
	b := append(make([]byte, 0, 9), 2, 7, 8, 9)
	in := tree.Of(tree.Blank(), tree.Data(7, 8), tree.Of(tree.Num(9)))
	for range 3 {
		got, f := e.Scan("a", b)
		out, filled, g := e.Serialise("a", in)
		if f != (api.Fault{}) || g != f || !tree.Same(got, filled) || !bytes.Equal(out, b) || tree.Text(in) != "0(_0,0:0708,0(9))" {
			t.Fatalf("%s, %v, %x, %s, %v", tree.Text(got), f, out, tree.Text(filled), g)
		}
		sample.Spoil(got)
		sample.Spoil(filled)
		clear(out[:cap(out)])
		names := e.Names()
		clear(names[:cap(names)])
		if !bytes.Equal(b[:9], []byte{2, 7, 8, 9, 0, 0, 0, 0, 0}) || !slices.Equal(e.Names(), []string{"png", "proto", "dns", "a"}) {
			t.Fatalf("%x, %q", b[:9], e.Names())
		}
	}
}

func TestRawArguments(t *testing.T) {
	e := wire.New()
	texts := []string{"", "a", "png", " ", "\x00", "\xff\xfe", strings.Repeat("(", 1<<16), strings.Repeat("many ", 1<<12)}
	deep := tree.Num(1)
	for range 60000 {
		deep = api.Tree{Kids: []api.Tree{deep}}
	}
	for _, a := range texts {
		for _, b := range texts {
			e.Compile(a, b)
			e.Scan(a, []byte(b))
			e.Serialise(a, api.Tree{Num: math.MaxUint64, Blank: true, Data: []byte(b)})
		}
		e.Serialise(a, deep)
	}
	e.Limit(api.Caps{Input: math.MinInt, Depth: math.MinInt, Tokens: math.MaxInt})
	e.Scan("png", png.Signature())
}
