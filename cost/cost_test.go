package cost_test

import (
	"maps"
	"math"
	"reflect"
	"strconv"
	"testing"

	"guipure/api"
	"guipure/code"
	"guipure/cost"
	"guipure/feed"
	"guipure/first"
	"guipure/lower"
	"guipure/parse"
	"guipure/sample"
	"guipure/scan"
	"guipure/scope"
	"guipure/show"
	"guipure/spec"
	"guipure/tree"
)

const most = cost.Most

// read: the specification of a text.
func read(t *testing.T, text string) api.Spec {
	t.Helper()
	s, f := parse.Parse(text)
	if f.Code != api.OK {
		t.Fatalf("Parse of %.200q: %v", text, f)
	}
	return s
}

// program: that of a specification.
func program(t *testing.T, s api.Spec) *lower.Result {
	t.Helper()
	r, f := lower.Make(s)
	if f.Code != api.OK {
		t.Fatalf("%s: %v", show.Text(s), f)
	}
	return r
}

// wantOf tells if Of of a specification isn't what the oracle tells: the bound.
func wantOf(t *testing.T, s api.Spec) cost.Bound {
	t.Helper()
	kept := spec.Clone(s)
	got, f := cost.Of(s)
	if want := bound(s); f != (api.Fault{}) || got != want {
		t.Fatalf("%.2000s: %+v, %v, want %+v", show.Text(s), got, f, want)
	}
	if !reflect.DeepEqual(s, kept) {
		t.Fatalf("what was handed in was changed: %+v", s)
	}
	return got
}

// P25.1

func TestOf(t *testing.T) {
	for _, w := range []struct {
		text string
		want cost.Bound
	}{
		{"main = u8;", cost.Bound{Steps: 2, Held: 31, Deep: 1}},
		{"main = u64le 3..3;", cost.Bound{Steps: 2, Held: 31, Deep: 1}},
		{"main = zigzag lenient;", cost.Bound{Steps: 2, Held: 31, Deep: 1}},
		{"main = /a{2,5}b/;", cost.Bound{Steps: 2, Held: 31, Deep: 1}},
		{"main = bytes[300];", cost.Bound{Steps: 2, Held: 31, Deep: 1}},
		{"main = bytes[0];", cost.Bound{Steps: 2, Held: 31, Deep: 1}},
		{"main = empty;", cost.Bound{Steps: 3, Held: 31, Deep: 1}},
		{"a = u8; main = a;", cost.Bound{Steps: 4, Held: 32, Deep: 1}},
		{"a = u8; b = a; main = b;", cost.Bound{Steps: 6, Held: 33, Deep: 1}},
		{"a = empty; main = { x: a; y: a; };", cost.Bound{Steps: 11, Held: 37, Deep: 2}},
		{"a = many u8; main = u8;", cost.Bound{Steps: 2, Held: 32, Deep: 1}}, // a name counts, though it isn't needed
		{"a = { x: u8; s: u32be = crc(x..x); }; main = u8;", cost.Bound{Steps: 2, Held: 33, Deep: 1}},
		{"a = u8; main = /a/;", cost.Bound{Steps: 2, Held: 32, Deep: 1}}, // that isn't the name
		{"a = many u8; main = { x: /a/; };", cost.Bound{Steps: 4, Held: 37, Deep: 2}},
		{"main = { x: u8; };", cost.Bound{Steps: 4, Held: 36, Deep: 2}},
		{"main = { x: u8; y: { z: empty; }; };", cost.Bound{Steps: 8, Held: 41, Deep: 3}},
		{"main = { n: u8 = size(d); d: bytes[n]; };", cost.Bound{Steps: 5, Held: 36, Deep: 2}},
		{"main = { x: u8; s: u32be = crc(x..x); };", cost.Bound{Steps: 8, Held: 37, Deep: 2}},
		{"main = { x: u8; s: u32be = crc(x..x); t: u32le = crc(x..s); };", cost.Bound{Steps: 12, Held: 38, Deep: 2}},
		{"main = times[3] u8;", cost.Bound{Steps: 8, Held: 36, Deep: 2}},
		{"main = times[0] u8;", cost.Bound{Steps: 8, Held: 36, Deep: 2}},
		{"main = many u8;", cost.Bound{Steps: 8, Held: 36, Deep: 2}},
		{"main = many times[2] u8;", cost.Bound{Steps: 20, Held: 41, Deep: 3}},
		{"main = within[1] u8;", cost.Bound{Steps: 4, Held: 36, Deep: 2}},
		{"main = within[1] within[1] many u8;", cost.Bound{Steps: 12, Held: 46, Deep: 4}},
		{"main = { n: u8; s: switch n { 0: u8; }; };", cost.Bound{Steps: 9, Held: 41, Deep: 3}},
		{"main = { n: u8; s: switch n { 0: u8; 1: empty; }; };", cost.Bound{Steps: 11, Held: 41, Deep: 3}},
		{"main = { n: u8; s: switch n % 4 { 0: u8; 1: empty; else: { x: u8; }; }; };", cost.Bound{Steps: 14, Held: 46, Deep: 4}},
		{"main = oneof { u8 0..9 };", cost.Bound{Steps: 5, Held: 36, Deep: 2}},
		{"main = oneof { u8 0..9 | /z/ | { x: u8 10..19; y: u8; } };", cost.Bound{Steps: 10, Held: 41, Deep: 3}},
		{"main = chain { last u8 };", cost.Bound{Steps: 9, Held: 41, Deep: 3}}, // which is two deep
		{"main = chain { u8 0..9 | last /z/ };", cost.Bound{Steps: 11, Held: 41, Deep: 3}},
		{"main = chain { u8 0..9 | last { x: u8 10..19; y: u8; } };", cost.Bound{Steps: 17, Held: 46, Deep: 4}},
		{"a = { k: u8; s: u32be = crc(k..k); }; main = { n: u8 = count(t); t: times[n] a; c: u32be = crc(n..t); };", cost.Bound{Steps: 31, Held: 49, Deep: 4}},
	} {
		if got := wantOf(t, read(t, w.text)); got != w.want {
			t.Errorf("%s: %+v, want %+v", w.text, got, w.want)
		}
	}
	if most != 1<<62 {
		t.Error("Most")
	}
}

func TestFaults(t *testing.T) {
	for _, text := range sample.Refused() {
		s := read(t, text)
		want := first.Check(s)
		if got, f := cost.Of(s); got != (cost.Bound{}) || f != want || f.Code == api.OK {
			t.Errorf("%s: %+v, %v, want %v", text, got, f, want)
		}
	}
	if got, f := cost.Of(api.Spec{}); got != (cost.Bound{}) || f != (api.Fault{Code: api.ErrLong}) {
		t.Errorf("of nothing: %+v, %v", got, f)
	}
}

func TestSamples(t *testing.T) {
	m := &sample.Maker{Seed: 80}
	met := map[int]int{} // of each kind how many
	for i := range 1500 {
		s := m.Shuffled(m.Accepted(1 + i%6))
		wantOf(t, s)
		for _, n := range s.Nodes {
			met[n.Kind]++
		}
	}
	for kind := api.Fixed; kind <= api.Use; kind++ {
		if met[kind] < 50 {
			t.Errorf("met: %v", met)
		}
	}
	for _, text := range sample.Texts() {
		wantOf(t, read(t, text))
	}
}

// costing: a specification whose steps are just so many: names each of which has the one ahead of it twice, and a Record of those that are dear enough.
func costing(steps uint64) string {
	dear := []uint64{3} // what a Use of each name costs
	text := "a0 = u8; "
	for i := 1; 2*dear[i-1]+4 < steps; i++ {
		ahead := "a" + strconv.Itoa(i-1)
		text += "a" + strconv.Itoa(i) + " = { x: " + ahead + "; y: " + ahead + "; }; "
		dear = append(dear, 2*dear[i-1]+4)
	}
	text += "main = {"
	left := steps - 3 // one more than the Record's own
	for i := len(dear) - 1; left > 0; {
		kind, price := "u8", uint64(1)
		if i >= 0 {
			kind, price = "a"+strconv.Itoa(i), dear[i]
		}
		if price > left {
			i--
			continue
		}
		text += " f" + strconv.FormatUint(left, 10) + ": " + kind + ";"
		left -= price
	}
	return text + " };"
}

func TestMostSteps(t *testing.T) {
	for _, w := range []struct{ steps, want uint64 }{
		{20, 20}, {1000, 1000}, {1<<40 + 12345, 1<<40 + 12345},
		{most - 2, most - 2}, {most - 1, most - 1}, {most, most}, {most + 1, most}, {most + 2, most}, {most + 3, most}, {most + most/2, most}, {2*most - 1, most},
	} {
		s := read(t, costing(w.steps))
		if got := wantOf(t, s); got.Steps != w.want {
			t.Errorf("%d: %d, want %d", w.steps, got.Steps, w.want)
		}
	}
}

// Types in types as deep as can be, and names in names.
func TestGreatOnes(t *testing.T) {
	s := read(t, "main = u8;")
	for len(s.Nodes) < scope.MaxNest {
		n := api.Node{Kind: api.Times, Expr: api.Expr{Add: 2}, Kids: []int{len(s.Nodes) - 1}}
		s.Nodes = append(s.Nodes, n)
		s.Defs[0].Type = len(s.Nodes) - 1
		got := wantOf(t, s)
		want := uint64(most)
		if deep := len(s.Nodes) - 1; deep < 60 {
			want = 6<<deep - 4
		}
		if got.Steps != want || got.Deep != len(s.Nodes) {
			t.Errorf("%d: %+v, want %d", len(s.Nodes), got, want)
		}
	}
	text := "a0 = u8; "
	for i := range 30 { // there are almost MaxNodes types
		text += "a" + strconv.Itoa(i+1) + " = {"
		for j := range spec.MaxParts {
			text += " f" + strconv.Itoa(j) + ": a" + strconv.Itoa(i) + ";"
		}
		text += " }; "
	}
	if got := wantOf(t, read(t, text+"main = a30;")); got.Steps != most || got.Deep != 31 {
		t.Errorf("%+v", got)
	}
}

// P25.2

func TestLimit(t *testing.T) {
	for _, w := range []struct {
		steps uint64
		many  int
		want  uint64
	}{
		{5, 0, 5}, {5, 1, 10}, {5, 2, 15}, {5, 99, 500},
		{5, -1, 5}, {5, -2, 5}, {5, math.MinInt, 5},
		{0, 0, 0}, {0, 7, 0}, {0, math.MaxInt, 0}, {0, -1, 0},
		{1, most - 2, most - 1}, {1, most - 1, most}, {1, most, most}, {1, math.MaxInt, most},
		{2, most/2 - 2, most - 2}, {2, most/2 - 1, most}, {2, most / 2, most},
		{3, (most - 1) / 3, most}, {3, (most-1)/3 - 1, most - 1},
		{most - 1, 0, most - 1}, {most, 0, most}, {most, 1, most}, {most + 1, 0, most}, {most + 1, -5, most}, {math.MaxUint64, 0, most}, {math.MaxUint64, -1, most},
		{4, most - 1, most}, {8, most/2 - 1, most}, {1 << 32, 1<<32 - 1, most}, {1 << 32, 1<<30 - 1, most}, {1 << 32, 1<<30 - 2, most - 1<<32}, // some of which are 0 in 64 bits
		{math.MaxUint64, math.MaxInt, most}, {math.MaxUint64, 1, most}, {most, math.MaxInt, most},
	} {
		b := cost.Bound{Steps: w.steps, Held: 7, Deep: 8}
		if got := b.Limit(w.many); got != w.want || limit(b, w.many) != w.want {
			t.Errorf("%d, %d: %d, the tests' %d, want %d", w.steps, w.many, got, limit(b, w.many), w.want)
		}
	}
	m := &sample.Maker{Seed: 81}
	for range 10000 {
		b, many := cost.Bound{Steps: m.Number(math.MaxUint64)}, int(m.Number(math.MaxUint64)>>m.UpTo(64))
		if got, want := b.Limit(many), limit(b, many); got != want {
			t.Fatalf("%d, %d: %d, want %d", b.Steps, many, got, want)
		}
	}
}

// wantLittle tells if reading bytes, at once, or a byte a piece, costs more than the bound tells; and whether it costs just that.
func wantLittle(t *testing.T, s api.Spec, r *lower.Result, b []byte, caps api.Caps) bool {
	t.Helper()
	c, _ := cost.Of(s)
	m := feed.New(r, caps)
	look := func(what string, steps int) bool {
		if got := limit(c, m.Read()); uint64(steps) > got || m.Held() > c.Held {
			t.Fatalf("%x by\n%s: %s: %d steps, %d things, %d bytes are read, %+v", b, show.Text(s), what, steps, m.Held(), m.Read(), c)
		}
		return uint64(steps) == c.Limit(m.Read())
	}
	look("begun", m.Steps())
	for _, x := range b {
		m.Feed(x)
		look("fed", m.Steps())
	}
	x, _ := m.End()
	just := look("ended", m.Steps())
	y, steps, f := scan.Scan(r, b, caps)
	look("at once", steps)
	if f.Code == api.OK && (tree.Depth(x) > c.Deep || tree.Depth(y) > c.Deep) {
		t.Fatalf("%x by\n%s: %d deep, %+v", b, show.Text(s), tree.Depth(y), c)
	}
	return just
}

func TestBytesStayWithin(t *testing.T) {
	m := &sample.Maker{Seed: 82}
	just := 0
	try := func(s api.Spec, many int) {
		r := program(t, s)
		for _, p := range m.Pairs(s, many) {
			b := p.Bytes
			for range 5 {
				if wantLittle(t, s, r, b, m.Caps(p)) {
					just++
				}
				b = m.Garbled(b)
			}
		}
	}
	for i := range 600 {
		if s := m.Shuffled(m.Accepted(1 + i%5)); len(s.Nodes) <= 150 {
			try(s, 6)
		}
	}
	for _, text := range sample.Texts() {
		try(read(t, text), 150)
	}
	if just < 10 {
		t.Errorf("just %d cost as much as can be", just)
	}
}

// What costs much: parts of one byte each, up to one at which something is wrong.
func TestDearBytes(t *testing.T) {
	for _, text := range []string{
		"main = many u8 0..9;",
		"main = many times[1] times[1] times[1] u8 0..9;",
		"main = times[9] within[1] many { e: empty; f: empty; x: u8; g: empty; };",
		"a = { e: empty; x: u8 0..9; s: switch x { 0: empty; else: { f: empty; b: bytes[0]; }; }; }; b = a; main = times[12] b;",
		"main = chain { { x: u8 0..9; e: empty; t: times[0] u8; } | last u8 10..10 };",
		"main = many chain { u8 0..9 | last oneof { oneof { u8 10..10 } } };",
		"main = many within[1] many oneof { u8 0..9 };",
		"main = { n: u8; t: times[n] { k: u8 0..9; t: times[k] oneof { u8 0..9 }; }; };",
	} {
		s := read(t, text)
		r := program(t, s)
		for _, b := range sample.Rows(3) {
			wantLittle(t, s, r, b, sample.Ample())
		}
		for _, long := range []int{0, 1, 2, 9, 10, 50} {
			b := make([]byte, long)
			for _, last := range []byte{0, 1, 9, 10, 255} {
				wantLittle(t, s, r, append(b, last), sample.Ample())
				wantLittle(t, s, r, append(b, last), api.Caps{Input: long, Depth: 5, Tokens: 3 * long})
			}
		}
	}
}

// P25.3

func TestKinds(t *testing.T) {
	for _, w := range []struct {
		text string
		want map[string]int
	}{
		{"main = u8;", map[string]int{"fixed": 1, "end": 1}},
		{"main = { n: u8 = size(d); d: bytes[n]; t: /ab/; };", map[string]int{"open": 1, "fixed": 1, "blob": 1, "token": 1, "close": 1, "end": 1}},
		{"a = varint; main = { x: a; y: a; z: u32be = crc(x..y); t: times[2] within[1] a; };", map[string]int{"open": 1, "call": 3, "mark": 1, "stop": 1, "fixed": 1, "sum": 1, "count": 1, "next": 1, "enter": 1, "leave": 1, "jump": 1, "close": 2, "end": 1, "varint": 1, "return": 1}},
		{"main = many { n: u8; s: switch n { 0: empty; 1: oneof { u8 }; }; };", map[string]int{"open": 4, "many": 1, "fixed": 2, "switch": 1, "close": 5, "jump": 4, "choice": 1, "end": 1}},
	} {
		if got := cost.Kinds(program(t, read(t, w.text)).Program); !maps.Equal(got, w.want) {
			t.Errorf("%s: %v, want %v", w.text, got, w.want)
		}
	}
}

// Of programs of any form; steps of a kind without a name are left aside.
func TestKindsOfRawOnes(t *testing.T) {
	if got := cost.Kinds(code.Program{}); len(got) != 0 {
		t.Errorf("of no steps: %v", got)
	}
	p := code.Program{Slots: -1, Steps: []code.Step{{}, {Kind: -1}, {Kind: code.End + 1}, {Kind: math.MinInt}, {Kind: math.MaxInt}}}
	if got := cost.Kinds(p); len(got) != 0 {
		t.Errorf("of steps without a kind: %v", got)
	}
	p.Steps = append(p.Steps, code.Step{Kind: code.Open, A: -7}, code.Step{Kind: code.Open, B: 99}, code.Step{Kind: code.Sum, A: 5})
	if got := cost.Kinds(p); !maps.Equal(got, map[string]int{"open": 2, "sum": 1}) {
		t.Errorf("%v", got)
	}
	m := &sample.Maker{Seed: 83}
	for range 300 {
		p := m.Program(40)
		kept := code.Clone(p)
		got := cost.Kinds(p)
		for kind := code.Open; kind <= code.End; kind++ {
			want := 0
			for _, s := range p.Steps {
				if s.Kind == kind {
					want++
				}
			}
			if many, ok := got[code.Name(kind)]; many != want || ok != (want > 0) {
				t.Fatalf("%+v: %v", p, got)
			}
		}
		clear(got) // it is the caller's
		if again := cost.Kinds(p); len(again) == 0 || !reflect.DeepEqual(p, kept) {
			t.Fatalf("%+v: %v", p, again)
		}
	}
}

// P1, P2

func TestRawOnes(t *testing.T) {
	for _, s := range sample.Wrongs() {
		kept := spec.Clone(s)
		want := first.Check(s)
		got, f := cost.Of(s)
		if f != want || (f.Code == api.OK) != (got != cost.Bound{}) {
			t.Errorf("Of %+v: %+v, %v, want %v", s, got, f, want)
		}
		if !reflect.DeepEqual(s, kept) {
			t.Errorf("what was handed in was changed: %+v", s)
		}
	}
}

func TestExamples(t *testing.T) {
	b, f := cost.Of(read(t, "main = { n: u8 = size(d); d: bytes[n]; };"))
	if f != (api.Fault{}) || b.Steps != 5 || b.Limit(0) != 5 || b.Limit(1) != 10 || b.Limit(100) != 505 {
		t.Errorf("%+v, %v", b, f)
	}
}
