package feed_test

import (
	"bytes"
	"reflect"
	"slices"
	"strconv"
	"sync"
	"testing"

	"guipure/api"
	"guipure/feed"
	"guipure/lower"
	"guipure/parse"
	"guipure/sample"
	"guipure/scan"
	"guipure/scope"
	"guipure/show"
	"guipure/tree"
)

// closed: what is told behind an End.
func closed() api.Fault { return api.Fault{Code: api.ErrClosed} }

// read: the specification of a text.
func read(t *testing.T, text string) api.Spec {
	t.Helper()
	s, f := parse.Parse(text)
	if f.Code != api.OK {
		t.Fatalf("Parse of %.200q: %v", text, f)
	}
	return s
}

// program: that of a specification.
func program(t *testing.T, s api.Spec) *lower.Result {
	t.Helper()
	r, f := lower.Make(s)
	if f.Code != api.OK {
		t.Fatalf("%s: %v", show.Text(s), f)
	}
	return r
}

// machine: one of a text's specification, under ample caps.
func machine(t *testing.T, text string) *feed.Machine {
	t.Helper()
	return feed.New(program(t, read(t, text)), sample.Ample())
}

// soFar: what is wrong with the bytes that came.
func soFar(r *lower.Result, b []byte, caps api.Caps) api.Fault {
	_, _, f := scan.Scan(r, b, caps)
	if f.Code == api.ErrEnd {
		return api.Fault{}
	}
	return f
}

// most: how many things are kept at most.
func most(s api.Spec) int {
	sums := 0
	for _, n := range s.Nodes {
		for _, f := range n.Fields {
			if f.Derive == api.SumOf {
				sums++
			}
		}
	}
	return 5*(scope.Deep(s)+1) + sums + len(s.Defs) + 20
}

// watch is a machine, and what came for it.
type watch struct {
	*feed.Machine
	t     *testing.T
	s     api.Spec
	r     *lower.Result
	caps  api.Caps
	came  []byte
	read  int
	steps int
}

// start: one that has read nothing.
func start(t *testing.T, s api.Spec, r *lower.Result, caps api.Caps) *watch {
	t.Helper()
	w := &watch{Machine: feed.New(r, caps), t: t, s: s, r: r, caps: caps}
	w.look(w.Fault())
	return w
}

// fail: something isn't as it must be.
func (w *watch) fail(what string, got, want any) {
	w.t.Helper()
	w.t.Fatalf("%x by\n%s%+v: %s is %v, want %v", w.came, show.Text(w.s), w.caps, what, got, want)
}

// look tells if something isn't as it must be behind the bytes that came: a call told of them, too.
func (w *watch) look(told api.Fault) {
	w.t.Helper()
	want := soFar(w.r, w.came, w.caps)
	if told != want || w.Fault() != want {
		w.fail("what is wrong", []api.Fault{told, w.Fault()}, want)
	}
	if n := w.Read(); want.Code == api.OK && n != len(w.came) || n > len(w.came) || n < w.read {
		w.fail("Read", n, len(w.came))
	}
	if n := w.Steps(); n < w.steps {
		w.fail("Steps", n, w.steps)
	}
	if n := w.Held(); n < 1 || n > most(w.s) {
		w.fail("Held", n, most(w.s))
	}
	w.read, w.steps = w.Read(), w.Steps()
}

// feed: some bytes more. Behind what is wrong nothing is read.
func (w *watch) feed(b ...byte) {
	w.t.Helper()
	wrong, read, steps := w.Fault().Code != api.OK, w.Read(), w.Steps()
	kept := bytes.Clone(b)
	told := w.Feed(b...)
	if !bytes.Equal(b, kept) {
		w.fail("what was handed in", b, kept)
	}
	w.came = append(w.came, b...)
	clear(b) // they aren't kept
	w.look(told)
	if wrong && (w.Read() != read || w.Steps() != steps) {
		w.fail("what is read behind what is wrong", w.Read(), read)
	}
}

// end: no more bytes: the fault.
func (w *watch) end() api.Fault {
	w.t.Helper()
	want, steps, fault := scan.Scan(w.r, w.came, w.caps)
	got, f := w.End()
	if f != fault || !tree.Same(got, want) || w.Fault() != fault {
		w.fail("End", []any{tree.Text(got), f, w.Fault()}, []any{tree.Text(want), fault})
	}
	if f.Code != api.OK && !reflect.DeepEqual(got, api.Tree{}) {
		w.fail("the tree beside a fault", tree.Text(got), "none")
	}
	if f.Code == api.OK && (w.Steps() != steps || w.Read() != len(w.came)) {
		w.fail("Steps, Read behind an End", []int{w.Steps(), w.Read()}, []int{steps, len(w.came)})
	}
	w.over(fault)
	if !tree.Same(got, want) {
		w.fail("the tree behind other calls", tree.Text(got), tree.Text(want))
	}
	return f
}

// over tells if calls behind an End change something.
func (w *watch) over(fault api.Fault) {
	w.t.Helper()
	read, steps, held := w.Read(), w.Steps(), w.Held()
	if f := w.Feed(1, 2, 3); f != closed() {
		w.fail("Feed behind End", f, closed())
	}
	if f := w.Feed(); f != closed() {
		w.fail("Feed of nothing behind End", f, closed())
	}
	if x, f := w.End(); f != closed() || !reflect.DeepEqual(x, api.Tree{}) {
		w.fail("End behind End", f, closed())
	}
	if w.Fault() != fault || w.Read() != read || w.Steps() != steps || w.Held() != held {
		w.fail("what there is behind refused calls", []any{w.Fault(), w.Read(), w.Steps(), w.Held()}, []any{fault, read, steps, held})
	}
}

// wantFeed tells if bytes in pieces aren't what they are at once: the fault.
func wantFeed(t *testing.T, m *sample.Maker, s api.Spec, r *lower.Result, b []byte, caps api.Caps) api.Fault {
	t.Helper()
	w := start(t, s, r, caps)
	long := 1 + m.UpTo(10)
	for len(b) > 0 {
		many := min(len(b), m.UpTo(long+1))
		w.feed(bytes.Clone(b[:many])...)
		b = b[many:]
	}
	return w.end()
}

// told: all errors that are told of bytes.
func told() []api.Errno {
	return []api.Errno{
		api.OK, api.ErrEnd, api.ErrVar, api.ErrCanon, api.ErrOver, api.ErrValue, api.ErrToken, api.ErrChoice, api.ErrCase,
		api.ErrLimit, api.ErrSum, api.ErrRest, api.ErrInput, api.ErrDepth, api.ErrTokens,
	}
}

// P22.1, P22.2, P22.3, P22.4

func TestSamples(t *testing.T) {
	m := &sample.Maker{Seed: 50}
	met := map[api.Errno]int{}
	for i := range 800 {
		s := m.Shuffled(m.Accepted(1 + i%5))
		if len(s.Nodes) > 150 {
			continue
		}
		r := program(t, s)
		for _, p := range m.Pairs(s, 6) {
			b := p.Bytes
			for range 4 {
				met[wantFeed(t, m, s, r, b, m.Caps(p)).Code]++
				b = m.Garbled(b)
			}
		}
	}
	if len(met) < len(told())-2 {
		t.Errorf("met: %v", met)
	}
}

func TestTexts(t *testing.T) {
	m := &sample.Maker{Seed: 51}
	total := map[api.Errno]int{}
	for _, text := range sample.Texts() {
		s := read(t, text)
		r := program(t, s)
		met := map[api.Errno]int{}
		for _, p := range m.Pairs(s, 500) {
			b := p.Bytes
			for range 8 {
				met[wantFeed(t, m, s, r, b, m.Caps(p)).Code]++
				b = m.Garbled(b)
			}
		}
		if len(met) < 6 || met[api.OK] < 100 {
			t.Errorf("%s: met %v", text, met)
		}
		for code, many := range met {
			total[code] += many
		}
	}
	for _, code := range told() {
		if total[code] == 0 {
			t.Errorf("met: %v", total)
		}
	}
}

// Bytes by chance, and all rows of few ones.
func TestRows(t *testing.T) {
	m := &sample.Maker{Seed: 52}
	for _, text := range sample.Texts() {
		s := read(t, text)
		r := program(t, s)
		for range 300 {
			b := make([]byte, m.UpTo(20))
			for i := range b {
				b[i] = byte(m.UpTo(256) >> m.UpTo(9))
			}
			wantFeed(t, m, s, r, b, m.Caps(sample.Pair{Bytes: b}))
		}
		for _, b := range sample.Rows(3) {
			wantFeed(t, m, s, r, b, sample.Ample())
		}
	}
}

// P22.1

func TestNew(t *testing.T) {
	m := machine(t, "main = { n: u8; d: bytes[n]; };")
	if m.Read() != 0 || m.Fault() != (api.Fault{}) || m.Held() < 1 {
		t.Errorf("%d, %v, %d", m.Read(), m.Fault(), m.Held())
	}
	if x, f := m.End(); f != (api.Fault{Code: api.ErrEnd}) || !reflect.DeepEqual(x, api.Tree{}) {
		t.Errorf("%s, %v", tree.Text(x), f)
	}
	for text, want := range map[string]string{"main = many u8;": "0", "main = empty;": "0", "main = { a: empty; b: bytes[0]; c: times[0] u8; };": "0(0,0,0)"} {
		if x, f := machine(t, text).End(); f != (api.Fault{}) || tree.Text(x) != want {
			t.Errorf("%s: %s, %v", text, tree.Text(x), f)
		}
	}
}

func TestClosed(t *testing.T) {
	m := machine(t, "main = many u8 0..9;")
	if f := m.Feed(1, 2); f != (api.Fault{}) {
		t.Error(f)
	}
	x, f := m.End()
	if f != (api.Fault{}) || tree.Text(x) != "0(1,2)" {
		t.Errorf("%s, %v", tree.Text(x), f)
	}
	if f := m.Feed(3); f != closed() {
		t.Errorf("Feed behind End: %v", f)
	}
	if x, f := m.End(); f != closed() || !reflect.DeepEqual(x, api.Tree{}) {
		t.Errorf("End behind End: %v", f)
	}
	if m.Fault() != (api.Fault{}) || m.Read() != 2 || tree.Text(x) != "0(1,2)" {
		t.Errorf("%v, %d, %s", m.Fault(), m.Read(), tree.Text(x))
	}
	m = machine(t, "main = u8 0..9;")
	wrong := api.Fault{Code: api.ErrValue}
	if f := m.Feed(77); f != wrong {
		t.Errorf("%v, want %v", f, wrong)
	}
	if _, f := m.End(); f != wrong || m.Fault() != wrong {
		t.Errorf("%v, %v, want %v", f, m.Fault(), wrong)
	}
	if f := m.Feed(7); f != closed() || m.Fault() != wrong { // it isn't what is wrong any more
		t.Errorf("%v, %v", f, m.Fault())
	}
	m = machine(t, "main = u16be;")
	m.Feed(1)
	if _, f := m.End(); f != (api.Fault{Code: api.ErrEnd, At: 1}) || m.Fault() != f {
		t.Errorf("%v, %v", f, m.Fault())
	}
}

// P22.2

// What is wrong is told as soon as the byte comes by which it is, and not before.
func TestAtOnce(t *testing.T) {
	caps := func(input, deep, tokens int) api.Caps { return api.Caps{Input: input, Depth: deep, Tokens: tokens} }
	for _, w := range []struct {
		text  string
		caps  api.Caps
		right []byte // nothing is wrong with these
		next  []byte // with the first one of these something is; none: ahead of all bytes
		want  api.Fault
	}{
		{"main = u16be 0..9;", sample.Ample(), []byte{0}, []byte{10, 0}, api.Fault{Code: api.ErrValue}},
		{"main = u16be 0..9;", sample.Ample(), []byte{1}, []byte{0}, api.Fault{Code: api.ErrValue}},
		{"main = u8;", sample.Ample(), []byte{1}, []byte{0, 0}, api.Fault{Code: api.ErrRest, At: 1}},
		{"main = empty;", sample.Ample(), nil, []byte{0}, api.Fault{Code: api.ErrRest}},
		{"main = varint;", sample.Ample(), []byte{0x80, 0x80}, []byte{0}, api.Fault{Code: api.ErrCanon}},
		{"main = { a: u8; b: varint; };", sample.Ample(), slices.Concat([]byte{0}, slices.Repeat([]byte{0xff}, 9)), []byte{2}, api.Fault{Code: api.ErrVar, At: 1}},
		{"main = { a: u8; b: /abc/; };", sample.Ample(), []byte{0, 'a', 'b'}, []byte{'b'}, api.Fault{Code: api.ErrToken, At: 3}},
		{"main = { a: u8; b: oneof { u8 0..9 }; };", sample.Ample(), []byte{0}, []byte{10}, api.Fault{Code: api.ErrChoice, At: 1}},
		{"main = { a: u8; b: switch a { 0: u8; }; };", sample.Ample(), nil, []byte{1}, api.Fault{Code: api.ErrCase, At: 1}},
		{"main = { a: varint; b: bytes[2*a+18446744073709551615]; };", sample.Ample(), nil, []byte{1}, api.Fault{Code: api.ErrOver, At: 1}},
		{"main = { a: varint; b: times[2*a+18446744073709551615] u8; };", sample.Ample(), nil, []byte{1}, api.Fault{Code: api.ErrOver, At: 1}},
		{"main = { a: varint; b: within[2*a+18446744073709551615] u8; };", sample.Ample(), nil, []byte{1}, api.Fault{Code: api.ErrOver, At: 1}},
		{"main = { a: varint; b: within[2*a+18446744073709551615] bytes[4611686018427387903]; };", sample.Ample(), nil, []byte{0}, api.Fault{Code: api.ErrLimit, At: 1}},
		{"main = { a: u8; w: within[18446744073709551615] within[18446744073709551615] u8; };", sample.Ample(), nil, []byte{0}, api.Fault{Code: api.ErrLimit, At: 1}},
		{"main = within[1] u16be;", sample.Ample(), nil, nil, api.Fault{Code: api.ErrLimit}},
		{"main = within[1] empty;", sample.Ample(), nil, nil, api.Fault{Code: api.ErrLimit}},
		{"main = within[1] varint;", sample.Ample(), nil, []byte{0x80}, api.Fault{Code: api.ErrLimit}},
		{"main = within[2] { a: u8; b: /ab/; };", sample.Ample(), []byte{0}, []byte{'a'}, api.Fault{Code: api.ErrLimit, At: 1}},
		{"main = within[1] { a: u8; b: oneof { u8 }; };", sample.Ample(), nil, []byte{0}, api.Fault{Code: api.ErrLimit, At: 1}},
		{"main = within[2] { a: u8; n: u8; d: bytes[n]; };", sample.Ample(), []byte{0}, []byte{1}, api.Fault{Code: api.ErrLimit, At: 2}},
		{"main = { w: within[3] u16be; };", sample.Ample(), []byte{0}, []byte{0}, api.Fault{Code: api.ErrLimit, At: 2}},
		{"main = { a: u8; s: u32be = crc(a..a); };", sample.Ample(), []byte{0, 0xd2, 0x02, 0xef}, []byte{0x8e}, api.Fault{Code: api.ErrSum, At: 1}},
		{"main = bytes[9];", caps(3, 9, 9), []byte{0, 0, 0}, []byte{0}, api.Fault{Code: api.ErrInput, At: 3}},
		{"main = u32be;", caps(3, 9, 9), []byte{0, 0, 0}, []byte{0}, api.Fault{Code: api.ErrInput, At: 3}},
		{"main = many u8;", caps(3, 9, 9), []byte{0, 0, 0}, []byte{0}, api.Fault{Code: api.ErrInput, At: 3}},
		{"main = many oneof { u8 0..9 };", caps(3, 9, 9), []byte{0, 0, 0}, []byte{0}, api.Fault{Code: api.ErrInput, At: 3}},
		{"main = u8;", caps(9, 0, 9), nil, nil, api.Fault{Code: api.ErrDepth}},
		{"main = u8;", caps(9, 9, 0), nil, nil, api.Fault{Code: api.ErrTokens}},
		{"main = { a: u8; b: { c: u8; }; };", caps(9, 2, 9), nil, []byte{0}, api.Fault{Code: api.ErrDepth, At: 1}},
		{"main = many u8;", caps(9, 1, 9), nil, []byte{0}, api.Fault{Code: api.ErrDepth}}, // without a byte there is none
		{"main = many u8;", caps(9, 9, 3), []byte{0, 0}, []byte{0}, api.Fault{Code: api.ErrTokens, At: 2}},
	} {
		s := read(t, w.text)
		r := program(t, s)
		m := start(t, s, r, w.caps)
		for _, c := range w.right {
			m.feed(c)
			if f := m.Fault(); f != (api.Fault{}) {
				t.Errorf("%s, %v: %v", w.text, w.right, f)
			}
		}
		for _, c := range w.next {
			if f := m.Feed(c); f != w.want {
				t.Errorf("%s, %v: %v, want %v", w.text, w.next, f, w.want)
			}
		}
		if f := m.Feed(); f != w.want || m.Fault() != w.want {
			t.Errorf("%s, %v: %v, %v, want %v", w.text, w.next, f, m.Fault(), w.want)
		}
		once := feed.New(r, w.caps)
		if f := once.Feed(append(slices.Clone(w.right), w.next...)...); f != w.want {
			t.Errorf("%s, at once: %v, want %v", w.text, f, w.want)
		}
		if _, f := once.End(); f != w.want {
			t.Errorf("%s, at once: %v, want %v", w.text, f, w.want)
		}
	}
}

// A limit is so far at most.
func TestFurthestLimit(t *testing.T) {
	for many, want := range map[string]api.Fault{"4611686018427387902": {}, "4611686018427387903": {Code: api.ErrLimit, At: 1}} {
		m := machine(t, "main = { a: u8; w: within[18446744073709551615] bytes["+many+"]; };")
		if f := m.Feed(0, 0, 0); f != want {
			t.Errorf("%s: %v, want %v", many, f, want)
		}
	}
}

// P22.3

func TestReadAndSteps(t *testing.T) {
	m := machine(t, "main = { n: u8 1..9 = size(d); d: bytes[n]; };")
	want := func(read, steps int) {
		t.Helper()
		if m.Read() != read || m.Steps() != steps {
			t.Errorf("Read %d, Steps %d, want %d, %d", m.Read(), m.Steps(), read, steps)
		}
	}
	want(0, 2) // the open, and the number, of which no byte came
	m.Feed(2)
	want(1, 3)
	m.Feed()
	want(1, 3)
	m.Feed(7)
	want(2, 3)
	m.Feed(8)
	want(3, 5)
	m.Feed(9) // it is wrong
	want(3, 5)
	m.Feed(10, 11)
	want(3, 5)
	if _, f := m.End(); f != (api.Fault{Code: api.ErrRest, At: 3}) {
		t.Error(f)
	}
	want(3, 5)
	m = machine(t, "main = many varint;")
	m.Feed(1, 2, 0x80, 1)
	if _, f := m.End(); f != (api.Fault{}) {
		t.Error(f)
	}
	want(4, 13)
}

// However bytes come, as much is read behind what is wrong.
func TestReadStays(t *testing.T) {
	s := read(t, "main = { a: u8; b: /ab/; c: u8 0..3; d: within[1] varint; };")
	r := program(t, s)
	for _, b := range [][]byte{{0, 'x', 0, 0}, {0, 'a', 'x', 0, 0}, {0, 'a', 'b', 9, 0, 0}, {0, 'a', 'b', 3, 0x80, 0, 0}, {0, 'a', 'b', 3, 1, 0, 0}} {
		once := feed.New(r, sample.Ample())
		once.Feed(b...)
		m := start(t, s, r, sample.Ample())
		for _, c := range b {
			m.feed(c)
		}
		if m.Read() != once.Read() || m.Steps() != once.Steps() || m.Fault() != once.Fault() {
			t.Errorf("%x: %d, %d, %v, at once %d, %d, %v", b, m.Read(), m.Steps(), m.Fault(), once.Read(), once.Steps(), once.Fault())
		}
	}
}

// P22.4

// more: how many more things one keeps than another one, of other specifications, behind the same bytes.
func more(t *testing.T, text, other string, b ...byte) int {
	t.Helper()
	m, n := machine(t, text), machine(t, other)
	if f, g := m.Feed(b...), n.Feed(b...); f != (api.Fault{}) || g != (api.Fault{}) {
		t.Errorf("%x: %v by %s, %v by %s", b, f, text, g, other)
	}
	return m.Held() - n.Held()
}

func TestHeld(t *testing.T) {
	for _, w := range []struct {
		text, other string
		bytes       []byte
		want        int
	}{
		{"main = { a: { b: u8; c: u8; }; };", "main = { b: u8; c: u8; };", []byte{1}, 1},
		{"main = { a: { b: u8; c: u8; }; };", "main = { b: u8; c: u8; };", []byte{1, 2}, 0}, // all are closed
		{"main = { a: { b: u8; }; c: u8; };", "main = { b: u8; c: u8; };", []byte{1}, 0},
		{"main = { a: oneof { { b: u8; c: u8; } }; };", "main = { b: u8; c: u8; };", []byte{1}, 2},
		{"main = chain { last { b: u8; c: u8; } };", "main = { b: u8; c: u8; };", []byte{1}, 2},
		{"main = { a: u8; b: switch a { 1: { c: u8; }; }; };", "main = { a: u8; c: u8; };", []byte{1}, 2},
		{"main = within[2] { b: u8; c: u8; };", "main = { b: u8; c: u8; };", []byte{1}, 2}, // the part, and its limit
		{"main = within[2] within[2] { b: u8; c: u8; };", "main = { b: u8; c: u8; };", []byte{1}, 4},
		{"main = { a: within[1] u8; c: u8; };", "main = { b: u8; c: u8; };", []byte{1}, 0},
		{"main = times[2] { a: u8; };", "main = many { a: u8; };", []byte{1}, 2},
		{"main = { l: times[2] times[2] u8; };", "main = { l: within[4] within[4] many u8; };", []byte{1}, -1},
		{"main = { l: times[1] u8; a: u8; };", "main = { b: u8; c: u8; };", []byte{1}, 0},
		{"a = { b: u8; c: u8; }; main = a;", "main = { b: u8; c: u8; };", []byte{1}, 1},
		{"a = { b: u8; c: u8; }; d = a; main = d;", "main = { b: u8; c: u8; };", []byte{1}, 2},
		{"a = u8; main = { b: a; c: u8; };", "main = { b: u8; c: u8; };", []byte{1}, 0},
		{"main = { a: u8; b: u8; s: u32be = crc(a..b); };", "main = { a: u8; b: u8; s: u32be; };", []byte{1}, 1},
		{"main = { a: u8; b: u8; s: u32be = crc(a..b); t: u32be = crc(b..s); };", "main = { a: u8; b: u8; s: u32be; };", []byte{1}, 2},
		{"main = { a: u8; b: u8; s: u32be = crc(a..a); };", "main = { a: u8; b: u8; s: u32be; };", []byte{1}, 0}, // it ended
		{"main = { a: u8; b: u32be; };", "main = { a: u8; b: bytes[4]; };", []byte{1}, 0},
		{"main = { a: u8; b: u32be; };", "main = { a: u8; b: bytes[4]; };", []byte{1, 2}, 1},
		{"main = { a: u8; b: u32be; };", "main = { a: u8; b: bytes[4]; };", []byte{1, 2, 3, 4}, 3},
		{"main = { a: u8; b: u32be; };", "main = { a: u8; b: bytes[4]; };", []byte{1, 2, 3, 4, 5}, 0},
		{"main = { a: varint; b: /xy/; };", "main = { a: u8; b: /xy/; };", []byte{1}, 1},
		{"main = { a: varint; b: /xy/; };", "main = { a: u8; b: /xy/; };", []byte{1, 'x'}, 1},
		{"main = { a: varint; b: /xy/; };", "main = { a: u16be; b: /xy/; };", []byte{0x81, 1, 'x'}, 2},
		{"main = { a: varint; b: /xy/; };", "main = { a: u64be; b: /xy/; };", []byte{0x81, 0x81, 0x81}, 0}, // of both three bytes
		{"main = { a: varint; b: varint; };", "main = { a: u8; b: u8; };", []byte{1, 2}, 1},                // the last one's alone
		{"main = { a: varint; b: varint; };", "main = { a: u16be; b: u8; };", []byte{0x81, 1, 2}, 1},
	} {
		if got := more(t, w.text, w.other, w.bytes...); got != w.want {
			t.Errorf("%x: %s keeps %d more than %s, want %d", w.bytes, w.text, got, w.other, w.want)
		}
	}
	m := machine(t, "main = { n: u8; d: bytes[n]; };")
	m.Feed(1, 2)
	if m.Held() != 1 {
		t.Errorf("%d, where all is read", m.Held())
	}
}

// However many bytes come, not more is kept.
func TestHeldOfManyBytes(t *testing.T) {
	m := machine(t, "a = { k: varint; d: bytes[300]; s: u32be; }; main = many a;")
	piece := slices.Concat([]byte{0x80, 0x80, 1}, make([]byte, 304))
	held := map[int]int{}
	for range 1000 {
		for _, c := range piece {
			if f := m.Feed(c); f != (api.Fault{}) {
				t.Fatal(f)
			}
			held[m.Held()]++
		}
	}
	if len(held) > 10 || m.Held() > 20 {
		t.Errorf("held: %v", held)
	}
	if x, f := m.End(); f != (api.Fault{}) || len(x.Kids) != 1000 {
		t.Errorf("%v, %d parts", f, len(x.Kids))
	}
}

// As deep as a specification may be, with all that can be kept.
func TestHeldOfDeepOnes(t *testing.T) {
	text := "a0 = { x: u8; y: varint; z: u64be; };"
	many := scope.MaxNest/4 - 1
	for i := range many {
		next, ahead := strconv.Itoa(i+1), "a"+strconv.Itoa(i)
		if i >= 60 { // there are no more names
			break
		}
		text += " a" + next + " = times[1] { b: u8; w: within[255] { l: " + ahead + "; m: many u8; }; s: u32be = crc(b..w); };"
	}
	text += " main = a" + strconv.Itoa(min(many, 60)) + ";"
	s := read(t, text)
	r := program(t, s)
	m := start(t, s, r, sample.Ample())
	for range 12 {
		m.feed(0)
	}
	if deep := scope.Deep(s); deep < 150 || m.Held() < 10 {
		t.Errorf("%d deep, %d", deep, m.Held())
	}
}

// P1, P2

func TestRawCaps(t *testing.T) {
	m := &sample.Maker{Seed: 53}
	for _, text := range sample.Texts() {
		s := read(t, text)
		r := program(t, s)
		for _, p := range m.Pairs(s, 2) {
			for _, caps := range sample.AnyCaps() {
				wantFeed(t, m, s, r, p.Bytes, caps)
			}
		}
	}
}

// Trees are new memory, and two machines of a program share nothing.
func TestMachinesAreTheirOwn(t *testing.T) {
	s := read(t, "main = { n: u8; t: /a[a-z]*;/; l: times[2] bytes[n+2]; c: chain { u8 0..9 | last /x/ }; s: u32be = crc(n..c); };")
	r := program(t, s)
	b := []byte{0, 'a', 'b', ';', 1, 2, 3, 4, 5, 6, 'x', 0xd2, 0xa2, 0xe3, 0xf0}
	want, _, f := scan.Scan(r, b, sample.Ample())
	if f != (api.Fault{}) {
		t.Fatal(f)
	}
	one, two := feed.New(r, sample.Ample()), feed.New(r, sample.Ample())
	for _, c := range b {
		one.Feed(c)
		two.Feed(c)
	}
	got, f := one.End()
	if f != (api.Fault{}) || !tree.Same(got, want) {
		t.Fatalf("%s, %v", tree.Text(got), f)
	}
	sample.Spoil(got)
	if got, f := two.End(); f != (api.Fault{}) || !tree.Same(got, want) {
		t.Errorf("%s, %v", tree.Text(got), f)
	}
}

// Several machines of a program at the same time.
func TestFeedByMany(t *testing.T) {
	s := read(t, sample.Texts()[4])
	r := program(t, s)
	all := (&sample.Maker{Seed: 54}).Pairs(s, 50)
	var group sync.WaitGroup
	for range 8 {
		group.Go(func() {
			for _, p := range all {
				m := feed.New(r, sample.Ample())
				for _, c := range p.Bytes {
					m.Feed(c)
				}
				if got, f := m.End(); f != (api.Fault{}) || !tree.Same(got, p.Tree) {
					t.Errorf("%x: %s, %v", p.Bytes, tree.Text(got), f)
				}
			}
		})
	}
	group.Wait()
}

// Many bytes, in pieces of all sizes.
func TestManyBytes(t *testing.T) {
	s := read(t, "main = { n: u32be = size(d); d: bytes[n]; c: u32be = crc(n..d); l: many u16be; };")
	r := program(t, s)
	m := &sample.Maker{Seed: 55}
	data := make([]byte, 1<<20)
	for i := range data {
		data[i] = byte(m.UpTo(256))
	}
	b, want := sample.Written(s, tree.Of(tree.Num(1<<20), tree.Data(data...), tree.Num(0), tree.Of(make([]api.Tree, 1<<16)...)))
	held := most(s)
	for _, long := range []int{1, 7, 1000, 1 << 16, len(b)} {
		m := feed.New(r, api.Caps{Input: len(b), Depth: 3, Tokens: 1<<16 + 5})
		for piece := range slices.Chunk(b, long) {
			if f := m.Feed(piece...); f != (api.Fault{}) || m.Held() > held {
				t.Fatalf("pieces of %d: %v, %d", long, f, m.Held())
			}
		}
		if got, f := m.End(); f != (api.Fault{}) || !tree.Same(got, want) || m.Read() != len(b) {
			t.Errorf("pieces of %d: %v, %d bytes", long, f, m.Read())
		}
	}
}

func TestExamples(t *testing.T) {
	m := machine(t, "main = { n: u8 1..9 = size(d); d: bytes[n]; };")
	for _, piece := range [][]byte{{2}, nil, {7}, {8}} {
		if f := m.Feed(piece...); f != (api.Fault{}) {
			t.Errorf("%v: %v", piece, f)
		}
	}
	if x, f := m.End(); f != (api.Fault{}) || tree.Text(x) != "0(2,0:0708)" {
		t.Errorf("%s, %v", tree.Text(x), f)
	}
}
