package size_test

import (
	"math"
	"reflect"
	"slices"
	"strconv"
	"testing"

	"guipure/api"
	"guipure/first"
	"guipure/parse"
	"guipure/regex"
	"guipure/sample"
	"guipure/show"
	"guipure/size"
	"guipure/spec"
	"guipure/tree"
)

const endless = size.Endless

// read: the specification of a text.
func read(t *testing.T, text string) api.Spec {
	t.Helper()
	s, f := parse.Parse(text)
	if f.Code != api.OK {
		t.Fatalf("Parse of %.200q: %v", text, f)
	}
	return s
}

// wantOf tells if Of of a specification isn't what the oracle tells: the bounds.
func wantOf(t *testing.T, s api.Spec) []size.Bounds {
	t.Helper()
	kept := spec.Clone(s)
	got, f := size.Of(s)
	if f != (api.Fault{}) || len(got) != len(s.Nodes) {
		t.Fatalf("%s: %v, %v", show.Text(s), got, f)
	}
	for at, b := range got {
		if want := bounds(s, at); b != want {
			t.Fatalf("%s: %s: %+v, want %+v", show.Text(s), show.Kind(s, at), b, want)
		}
	}
	if !reflect.DeepEqual(s, kept) {
		t.Fatalf("what was handed in was changed: %+v", s)
	}
	return got
}

// whole is a specification's text, and the bounds of the whole's type.
type whole struct {
	text string
	want size.Bounds
}

// wantWhole tells if these aren't so.
func wantWhole(t *testing.T, list []whole) {
	t.Helper()
	for _, w := range list {
		s := read(t, w.text)
		if got := wantOf(t, s)[spec.Root(s)]; got != w.want {
			t.Errorf("%s: %+v, want %+v", w.text, got, w.want)
		}
	}
}

// P23.1

func TestLeaves(t *testing.T) {
	wantWhole(t, []whole{
		{"main = u8;", size.Bounds{Least: 1, Most: 1, Fewest: 1, Parts: 1}},
		{"main = u8 3..3;", size.Bounds{Least: 1, Most: 1, Fewest: 1, Parts: 1}},
		{"main = u24le;", size.Bounds{Least: 3, Most: 3, Fewest: 1, Parts: 1}},
		{"main = u64be 0..1;", size.Bounds{Least: 8, Most: 8, Fewest: 1, Parts: 1}},
		{"main = varint;", size.Bounds{Least: 1, Most: 10, Fewest: 1, Parts: 1}},
		{"main = zigzag;", size.Bounds{Least: 1, Most: 10, Fewest: 1, Parts: 1}},
		{"main = varint 0..127;", size.Bounds{Least: 1, Most: 1, Fewest: 1, Parts: 1}},
		{"main = varint 127..128;", size.Bounds{Least: 1, Most: 2, Fewest: 1, Parts: 1}},
		{"main = varint 128..16383;", size.Bounds{Least: 2, Most: 2, Fewest: 1, Parts: 1}},
		{"main = zigzag 128..16384;", size.Bounds{Least: 2, Most: 3, Fewest: 1, Parts: 1}},
		{"main = varint 9223372036854775807..9223372036854775808;", size.Bounds{Least: 9, Most: 10, Fewest: 1, Parts: 1}},
		{"main = varint lenient 0..5;", size.Bounds{Least: 1, Most: 10, Fewest: 1, Parts: 1}},
		{"main = varint lenient 128..129;", size.Bounds{Least: 2, Most: 10, Fewest: 1, Parts: 1}},
		{"main = zigzag lenient;", size.Bounds{Least: 1, Most: 10, Fewest: 1, Parts: 1}},
		{"main = bytes[0];", size.Bounds{Least: 0, Most: 0, Fewest: 1, Parts: 1}},
		{"main = bytes[3];", size.Bounds{Least: 3, Most: 3, Fewest: 1, Parts: 1}},
		{"main = bytes[4611686018427387903];", size.Bounds{Least: endless - 1, Most: endless - 1, Fewest: 1, Parts: 1}},
		{"main = bytes[4611686018427387904];", size.Bounds{Least: endless, Most: endless, Fewest: 1, Parts: 1}},
		{"main = bytes[4611686018427387905];", size.Bounds{Least: endless, Most: endless, Fewest: 1, Parts: 1}},
		{"main = bytes[18446744073709551615];", size.Bounds{Least: endless, Most: endless, Fewest: 1, Parts: 1}},
		{"main = { n: u8; d: bytes[n]; };", size.Bounds{Least: 1, Most: endless, Fewest: 3, Parts: 3}},
		{"main = { n: u8 0..0; d: bytes[n]; };", size.Bounds{Least: 1, Most: endless, Fewest: 3, Parts: 3}}, // whatever the number's range is
		{"main = { n: u8; d: bytes[9*n+5]; };", size.Bounds{Least: 6, Most: endless, Fewest: 3, Parts: 3}},
		{"main = { n: u8; d: bytes[n+18446744073709551615]; };", size.Bounds{Least: endless, Most: endless, Fewest: 3, Parts: 3}},
		{"main = empty;", size.Bounds{Least: 0, Most: 0, Fewest: 1, Parts: 1}},
		{"a = u16be; b = a; main = b;", size.Bounds{Least: 2, Most: 2, Fewest: 1, Parts: 1}},
	})
}

func TestTokens(t *testing.T) {
	for text, want := range map[string][2]uint64{
		"a":                         {1, 1},
		"ab?c":                      {2, 3},
		"a{2,5}b":                   {3, 6},
		"a*b":                       {1, endless},
		"x(a|bcd|ef)":               {2, 4},
		"x[^;]*;":                   {2, endless},
		"(a|bc){3}":                 {3, 6},
		"(a|bc){3,};":               {4, endless},
		".{7}":                      {7, 7},
		"[^;]{0,200};":              {1, 201},
		"(a|b(cd)*e)":               {1, endless},
		"(ab)*c|d{9}":               {1, endless},
		"xy{4}|zz":                  {2, 5},
		"a(b|c(d|e(f|g(h|i(j)))))k": {3, 7},
		"[A-Za-z]{4}":               {4, 4},
		"(0{9}|1)(0{9}|1)(2{4}|3)":  {3, 22},
		"(a(xy)*(z|wwww))":          {2, endless},
		"((a|b){100}){3}c{0,9};":    {301, 310},
	} {
		wantWhole(t, []whole{{"main = /" + text + "/;", size.Bounds{Least: want[0], Most: want[1], Fewest: 1, Parts: 1}}})
	}
}

// token: a specification of an expression, and whether it is accepted.
func tokenOf(n api.Regex) (api.Spec, bool) {
	s := api.Spec{Nodes: []api.Node{{Kind: api.Token, Text: regex.Text(n)}}, Defs: []api.Def{{Name: "main"}}}
	return s, first.Check(s).Code == api.OK
}

// Expressions of all sorts, as they are, and with a byte behind that they don't have.
func TestTokensOfSamples(t *testing.T) {
	end := api.Regex{Kind: api.One, Set: [4]uint64{0, 0, 0, 1 << 63}}
	met := map[bool]int{}
	for _, n := range sample.Regexes(3000) {
		for _, x := range []api.Regex{n, {Kind: api.Cat, Kids: []api.Regex{n, end}}} {
			if s, ok := tokenOf(x); ok {
				met[wantOf(t, s)[0].Most == endless]++
			}
		}
	}
	if met[true] < 100 || met[false] < 500 {
		t.Errorf("met: %v", met)
	}
}

func TestLists(t *testing.T) {
	wantWhole(t, []whole{
		{"main = times[3] u16be;", size.Bounds{Least: 6, Most: 6, Fewest: 4, Parts: 4}},
		{"main = times[3] varint;", size.Bounds{Least: 3, Most: 30, Fewest: 4, Parts: 4}},
		{"main = times[0] u16be;", size.Bounds{Least: 0, Most: 0, Fewest: 1, Parts: 1}},
		{"main = times[0] /a*b/;", size.Bounds{Least: 0, Most: 0, Fewest: 1, Parts: 1}}, // Endless times 0
		{"main = times[2] /a*b/;", size.Bounds{Least: 2, Most: endless, Fewest: 3, Parts: 3}},
		{"main = times[4611686018427387904] u8;", size.Bounds{Least: endless, Most: endless, Fewest: endless, Parts: endless}},
		{"main = times[4611686018427387903] u8;", size.Bounds{Least: endless - 1, Most: endless - 1, Fewest: endless, Parts: endless}},
		{"main = times[4611686018427387902] u8;", size.Bounds{Least: endless - 2, Most: endless - 2, Fewest: endless - 1, Parts: endless - 1}},
		{"main = times[2305843009213693952] varint 0..128;", size.Bounds{Least: endless / 2, Most: endless, Fewest: endless/2 + 1, Parts: endless/2 + 1}},
		{"main = times[18446744073709551615] times[18446744073709551615] u64be;", size.Bounds{Least: endless, Most: endless, Fewest: endless, Parts: endless}},
		{"main = times[6148914691236517206] u24be;", size.Bounds{Least: endless, Most: endless, Fewest: endless, Parts: endless}}, // 2^64 and 2
		{"main = times[0] times[18446744073709551615] u64be;", size.Bounds{Least: 0, Most: 0, Fewest: 1, Parts: 1}},
		{"main = { n: u8; t: times[n] u16be; };", size.Bounds{Least: 1, Most: endless, Fewest: 3, Parts: endless}},
		{"main = { n: u8; t: times[5*n+2] u16be; };", size.Bounds{Least: 5, Most: endless, Fewest: 5, Parts: endless}},
		{"main = { n: u8; t: times[2] times[n+1] { a: u8; b: empty; }; };", size.Bounds{Least: 3, Most: endless, Fewest: 11, Parts: endless}},
		{"main = many u16be;", size.Bounds{Least: 0, Most: endless, Fewest: 1, Parts: endless}},
		{"main = many times[4611686018427387904] u8;", size.Bounds{Least: 0, Most: endless, Fewest: 1, Parts: endless}},
		{"main = within[5] many u16be;", size.Bounds{Least: 5, Most: 5, Fewest: 2, Parts: endless}}, // of its Kid's bytes it tells nothing
		{"main = within[5] u8;", size.Bounds{Least: 5, Most: 5, Fewest: 2, Parts: 2}},
		{"main = within[0] { a: u8; b: empty; };", size.Bounds{Least: 0, Most: 0, Fewest: 4, Parts: 4}},
		{"main = within[18446744073709551615] u8;", size.Bounds{Least: endless, Most: endless, Fewest: 2, Parts: 2}},
		{"main = { n: u8; w: within[n] { a: u8; b: empty; }; };", size.Bounds{Least: 1, Most: endless, Fewest: 6, Parts: 6}},
		{"main = { n: u8; w: within[2*n+7] times[4] u8; };", size.Bounds{Least: 8, Most: endless, Fewest: 8, Parts: 8}},
	})
}

func TestRecords(t *testing.T) {
	wantWhole(t, []whole{
		{"main = { a: u8; };", size.Bounds{Least: 1, Most: 1, Fewest: 2, Parts: 2}},
		{"main = { e: empty; };", size.Bounds{Least: 0, Most: 0, Fewest: 2, Parts: 2}},
		{"main = { a: u8; b: varint; c: { d: /x{1,3};/; e: bytes[4]; }; };", size.Bounds{Least: 8, Most: 19, Fewest: 6, Parts: 6}},
		{"main = { n: u16be = size(d); d: bytes[n]; c: u32be = crc(n..d); };", size.Bounds{Least: 6, Most: endless, Fewest: 4, Parts: 4}},
		{"main = { a: bytes[4611686018427387903]; b: u8; };", size.Bounds{Least: endless, Most: endless, Fewest: 3, Parts: 3}},
		{"main = { a: bytes[4611686018427387903]; b: varint; };", size.Bounds{Least: endless, Most: endless, Fewest: 3, Parts: 3}},
		{"main = { a: bytes[4611686018427387902]; b: varint 0..127; };", size.Bounds{Least: endless - 1, Most: endless - 1, Fewest: 3, Parts: 3}},
		{"main = { a: bytes[4611686018427387904]; b: bytes[4611686018427387904]; c: bytes[4611686018427387904]; d: bytes[4611686018427387904]; };", size.Bounds{Least: endless, Most: endless, Fewest: 5, Parts: 5}},
		{"main = { a: u8; m: many { b: u8; c: u8; }; };", size.Bounds{Least: 1, Most: endless, Fewest: 3, Parts: endless}},
		{"p = { x: u8; y: varint; }; main = { a: p; b: p; };", size.Bounds{Least: 4, Most: 22, Fewest: 7, Parts: 7}},
	})
}

func TestAlternatives(t *testing.T) {
	wantWhole(t, []whole{
		{"main = { n: u8; s: switch n { 0: u64be; 5: { a: u8; b: u8; }; }; };", size.Bounds{Least: 3, Most: 9, Fewest: 4, Parts: 6}},
		{"main = { n: u8; s: switch n { 0: u64be; 5: { a: u8; b: u8; }; else: empty; }; };", size.Bounds{Least: 1, Most: 9, Fewest: 4, Parts: 6}},
		{"main = { n: u8; s: switch n { 0: u8; else: within[9] { a: u8; }; }; };", size.Bounds{Least: 2, Most: 10, Fewest: 4, Parts: 6}},
		{"main = { n: u8; s: switch n % 2 { 0: u8; 1: many u8; }; };", size.Bounds{Least: 1, Most: endless, Fewest: 4, Parts: endless}},
		{"main = oneof { u8 0..3 | /z/ };", size.Bounds{Least: 1, Most: 1, Fewest: 2, Parts: 2}},
		{"main = oneof { varint 0..3 | /x[a-z]{2,7};/ };", size.Bounds{Least: 1, Most: 9, Fewest: 2, Parts: 2}},
		{"main = oneof { u16be 0..3 | { a: u8 1..3; b: times[3] u8; } | /xy?z/ };", size.Bounds{Least: 2, Most: 4, Fewest: 2, Parts: 7}},
		{"main = oneof { u8 0..3 | { a: u8 4..9; b: many u16be; } };", size.Bounds{Least: 1, Most: endless, Fewest: 2, Parts: endless}},
		{"main = oneof { /a{40}/ };", size.Bounds{Least: 40, Most: 40, Fewest: 2, Parts: 2}},
		{"main = chain { last u8 };", size.Bounds{Least: 1, Most: 1, Fewest: 3, Parts: 3}},
		{"main = chain { last u8 0..3 | last /xyz/ | last { a: u8 9..9; b: u64be; c: u8; } };", size.Bounds{Least: 1, Most: 10, Fewest: 3, Parts: 6}},
		{"main = chain { u8 0..3 | last /xyz/ };", size.Bounds{Least: 3, Most: endless, Fewest: 3, Parts: endless}}, // the least is a Last one's
		{"main = chain { last /xyz/ | u8 0..3 | last { a: u16be 2304..2559; b: u8; c: u8; d: u8; } };", size.Bounds{Least: 3, Most: endless, Fewest: 3, Parts: endless}},
		{"main = chain { u8 0..3 | last { a: u8 9..9; b: u8; } | last { a: u8 10..10; b: u8; c: empty; } };", size.Bounds{Least: 2, Most: endless, Fewest: 5, Parts: endless}},
		{"main = chain { { n: u8 1..63 = size(t); t: bytes[n]; } | last u8 0..0 | last u16be 49152..65535 };", size.Bounds{Least: 1, Most: endless, Fewest: 3, Parts: endless}},
	})
}

// Of each type, whatever its number is, and whether it is needed or not.
func TestEachType(t *testing.T) {
	s := api.Spec{
		Nodes: []api.Node{
			{Kind: api.Use, Text: "b"},
			{Kind: api.Many, Kids: []int{0}},
			{Kind: api.Fixed, Width: 2, Max: 9},
			{Kind: api.Use, Text: "a"},
			{Kind: api.Record, Fields: []api.Field{{Name: "x", Type: 2}, {Name: "y", Type: 3}}},
			{Kind: api.Varint, Max: 128},
			{Kind: api.Token, Text: "ab?c"},
		},
		Defs: []api.Def{{Name: "a", Type: 5}, {Name: "b", Type: 4}, {Name: "c", Type: 6}, {Name: "main", Type: 1}},
	}
	want := []size.Bounds{
		{Least: 3, Most: 4, Fewest: 3, Parts: 3},
		{Least: 0, Most: endless, Fewest: 1, Parts: endless},
		{Least: 2, Most: 2, Fewest: 1, Parts: 1},
		{Least: 1, Most: 2, Fewest: 1, Parts: 1},
		{Least: 3, Most: 4, Fewest: 3, Parts: 3},
		{Least: 1, Most: 2, Fewest: 1, Parts: 1},
		{Least: 2, Most: 3, Fewest: 1, Parts: 1},
	}
	if got := wantOf(t, s); !slices.Equal(got, want) {
		t.Errorf("%+v", got)
	}
}

func TestFaults(t *testing.T) {
	for _, text := range sample.Refused() {
		s := read(t, text)
		want := first.Check(s)
		if got, f := size.Of(s); got != nil || f != want || f.Code == api.OK {
			t.Errorf("%s: %v, %v, want %v", text, got, f, want)
		}
	}
	if got, f := size.Of(api.Spec{}); got != nil || f != (api.Fault{Code: api.ErrLong}) {
		t.Errorf("of nothing: %v, %v", got, f)
	}
}

func TestSamples(t *testing.T) {
	m := &sample.Maker{Seed: 60}
	met := map[int]int{} // of each kind how many
	for i := range 1500 {
		s := m.Shuffled(m.Accepted(1 + i%5))
		wantOf(t, s)
		for _, n := range s.Nodes {
			met[n.Kind]++
		}
	}
	for kind := api.Fixed; kind <= api.Use; kind++ {
		if met[kind] < 50 {
			t.Errorf("met: %v", met)
		}
	}
}

// Trees have as many bytes and parts as their bounds tell, and some have the least, and some the most.
func TestTreesFit(t *testing.T) {
	m := &sample.Maker{Seed: 61}
	met := map[string]int{}
	for i := range 600 {
		s := m.Accepted(1 + i%4)
		b := wantOf(t, s)[spec.Root(s)]
		for _, p := range m.Pairs(s, 15) {
			many, parts := len(p.Bytes), tree.Parts(p.Tree)
			if !b.Fits(many, parts) {
				t.Fatalf("%s by\n%s: %d bytes, %d parts, %+v", tree.Text(p.Tree), show.Text(s), many, parts, b)
			}
			edges := []bool{b.Least == uint64(many), b.Most == uint64(many), b.Fewest == uint64(parts), b.Parts == uint64(parts)}
			for i, ok := range edges {
				if ok && b.Least < b.Most && b.Fewest < b.Parts {
					met["edge "+strconv.Itoa(i)]++
				}
			}
		}
	}
	for i := range 4 {
		if met["edge "+strconv.Itoa(i)] < 20 {
			t.Errorf("met: %v", met)
		}
	}
}

// Names in names, and types in types as deep as can be.
func TestGreatOnes(t *testing.T) {
	text := "a0 = u64be;"
	for i := range 63 {
		text += " a" + strconv.Itoa(i+1) + " = { x: a" + strconv.Itoa(i) + "; y: a" + strconv.Itoa(i) + "; };"
	}
	s := read(t, text)
	got, f := size.Of(s)
	if f != (api.Fault{}) {
		t.Fatal(f)
	}
	for i := range 64 {
		bytes, parts := uint64(endless), uint64(endless)
		if i < 59 {
			bytes = 8 << i
		}
		if i < 62 {
			parts = 2<<i - 1
		}
		if b := got[s.Defs[i].Type]; b != (size.Bounds{Least: bytes, Most: bytes, Fewest: parts, Parts: parts}) {
			t.Errorf("a%d: %+v, want %d, %d", i, b, bytes, parts)
		}
	}
	s = read(t, "main = u8;")
	for len(s.Nodes) < 200 {
		s.Nodes = append(s.Nodes, api.Node{Kind: api.Times, Expr: api.Expr{Add: 2}, Kids: []int{len(s.Nodes) - 1}})
	}
	s.Defs[0].Type = len(s.Nodes) - 1
	wantOf(t, s)
}

// An expression whose automaton is about as great as can be.
func TestGreatTokens(t *testing.T) {
	for text, want := range map[string][2]uint64{
		"(a[b-y]{250}){4}z":                {1005, 1005},
		"([^;x]{0,250}x){0,3};":            {1, 754},
		"((a|bb){120}c*){2};":              {241, endless},
		"((a|b|cc){60}d){3}(e|f{100}){2};": {186, 564},
	} {
		s := read(t, "main = /"+text+"/;")
		if got := wantOf(t, s)[0]; got != (size.Bounds{Least: want[0], Most: want[1], Fewest: 1, Parts: 1}) {
			t.Errorf("%s: %+v", text, got)
		}
	}
}

// P23.2

func TestFits(t *testing.T) {
	const most = math.MaxUint64
	for _, w := range []struct {
		b           size.Bounds
		size, parts int
		want        bool
	}{
		{size.Bounds{Least: 2, Most: 5, Fewest: 3, Parts: 7}, 2, 3, true},
		{size.Bounds{Least: 2, Most: 5, Fewest: 3, Parts: 7}, 5, 7, true},
		{size.Bounds{Least: 2, Most: 5, Fewest: 3, Parts: 7}, 4, 6, true},
		{size.Bounds{Least: 2, Most: 5, Fewest: 3, Parts: 7}, 1, 3, false},
		{size.Bounds{Least: 2, Most: 5, Fewest: 3, Parts: 7}, 6, 3, false},
		{size.Bounds{Least: 2, Most: 5, Fewest: 3, Parts: 7}, 2, 2, false},
		{size.Bounds{Least: 2, Most: 5, Fewest: 3, Parts: 7}, 2, 8, false},
		{size.Bounds{Least: 2, Most: 5, Fewest: 3, Parts: 7}, 0, 0, false},
		{size.Bounds{Least: 0, Most: 5, Fewest: 0, Parts: 7}, 0, 0, true},
		{size.Bounds{Least: 0, Most: 5, Fewest: 0, Parts: 7}, -1, 0, false},
		{size.Bounds{Least: 0, Most: 5, Fewest: 0, Parts: 7}, 0, -1, false},
		{size.Bounds{Least: 0, Most: endless, Fewest: 0, Parts: endless}, -1, 5, false},
		{size.Bounds{Least: 0, Most: endless, Fewest: 0, Parts: endless}, 5, -1, false},
		{size.Bounds{Least: 0, Most: most, Fewest: 0, Parts: most}, math.MinInt, 0, false},
		{size.Bounds{Least: 0, Most: most, Fewest: 0, Parts: most}, 0, math.MinInt, false},
		{size.Bounds{}, 0, 0, true},
		{size.Bounds{}, 1, 0, false},
		{size.Bounds{}, 0, 1, false},
		{size.Bounds{Least: 1, Most: endless, Fewest: 1, Parts: 1}, endless, 1, true},
		{size.Bounds{Least: 1, Most: endless, Fewest: 1, Parts: 1}, endless + 1, 1, true},
		{size.Bounds{Least: 1, Most: endless, Fewest: 1, Parts: 1}, math.MaxInt, 1, true},
		{size.Bounds{Least: 1, Most: endless, Fewest: 1, Parts: 1}, 0, 1, false},
		{size.Bounds{Least: 1, Most: endless, Fewest: 1, Parts: 1}, math.MaxInt, 2, false},
		{size.Bounds{Least: 1, Most: endless + 5, Fewest: 1, Parts: 1}, math.MaxInt, 1, true},
		{size.Bounds{Least: 1, Most: most, Fewest: 1, Parts: 1}, math.MaxInt, 1, true},
		{size.Bounds{Least: 1, Most: endless - 1, Fewest: 1, Parts: 1}, endless - 1, 1, true},
		{size.Bounds{Least: 1, Most: endless - 1, Fewest: 1, Parts: 1}, endless, 1, false},
		{size.Bounds{Least: 1, Most: 1, Fewest: 1, Parts: endless}, 1, math.MaxInt, true},
		{size.Bounds{Least: 1, Most: 1, Fewest: 1, Parts: most}, 1, math.MaxInt, true},
		{size.Bounds{Least: 1, Most: 1, Fewest: 1, Parts: endless - 1}, 1, endless - 1, true},
		{size.Bounds{Least: 1, Most: 1, Fewest: 1, Parts: endless - 1}, 1, endless, false},
		{size.Bounds{Least: endless, Most: endless, Fewest: 1, Parts: 1}, endless - 1, 1, false},
		{size.Bounds{Least: endless, Most: endless, Fewest: 1, Parts: 1}, endless, 1, true},
		{size.Bounds{Least: most, Most: most, Fewest: 1, Parts: 1}, math.MaxInt, 1, false},
		{size.Bounds{Least: 1, Most: 1, Fewest: most, Parts: most}, 1, math.MaxInt, false},
		{size.Bounds{Least: 5, Most: 2, Fewest: 1, Parts: 1}, 3, 1, false},
		{size.Bounds{Least: 1, Most: 1, Fewest: 5, Parts: 2}, 1, 3, false},
	} {
		if got := w.b.Fits(w.size, w.parts); got != w.want {
			t.Errorf("%+v: %d bytes, %d parts: %t", w.b, w.size, w.parts, got)
		}
	}
}

// P1, P2

func TestRawOnes(t *testing.T) {
	for _, s := range sample.Wrongs() {
		kept := spec.Clone(s)
		want := first.Check(s)
		got, f := size.Of(s)
		if f != want || f.Code != api.OK && got != nil || f.Code == api.OK && len(got) != len(s.Nodes) {
			t.Errorf("Of %+v: %v, %v, want %v", s, got, f, want)
		}
		if !reflect.DeepEqual(s, kept) {
			t.Errorf("what was handed in was changed: %+v", s)
		}
	}
}

// What is answered is new memory.
func TestAnswersAreTheirOwn(t *testing.T) {
	s := read(t, "main = { a: u8; b: many u16be; };")
	got := wantOf(t, s)
	want := slices.Clone(got)
	clear(got[:cap(got)])
	if again := wantOf(t, s); !slices.Equal(again, want) {
		t.Errorf("%+v", again)
	}
}

func TestExamples(t *testing.T) {
	s := read(t, "main = { n: u8 = size(d); d: bytes[n]; t: /a{2,5}b/; x: oneof { u8 0..3 | /z/ }; };")
	got, f := size.Of(s)
	if b := got[spec.Root(s)]; f != (api.Fault{}) || b.Least != 5 || b.Fewest != 6 {
		t.Errorf("%+v, %v", b, f)
	}
}
