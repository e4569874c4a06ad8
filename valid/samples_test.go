package valid_test

import (
	"reflect"
	"slices"
	"testing"

	"guipure/api"
	"guipure/parse"
	"guipure/sample"
	"guipure/show"
	"guipure/tree"
	"guipure/valid"
)

// read: the specification of a text.
func read(t *testing.T, text string) api.Spec {
	t.Helper()
	s, f := parse.Parse(text)
	if f.Code != api.OK {
		t.Fatalf("Parse of %.200q: %v", text, f)
	}
	return s
}

// linked: is a type one whose trees tell of each other?
func linked(n api.Node) bool {
	return n.Kind == api.Switch || slices.ContainsFunc(n.Fields, func(f api.Field) bool { return f.Derive != api.Plain })
}

// wantFill tells if Fill of a tree isn't what the oracle tells: the fault.
func wantFill(t *testing.T, m *valid.Maker, o *oracle, x api.Tree) api.Fault {
	t.Helper()
	kept := tree.Clone(x)
	want, many, fault := o.fill(x)
	got, size, f := m.Fill(x)
	if f != fault || size != many || !tree.Same(got, want) {
		t.Fatalf("%s by\n%s: %s, %d, %v, want %s, %d, %v", tree.Text(x), show.Text(o.s), tree.Text(got), size, f, tree.Text(want), many, fault)
	}
	if !reflect.DeepEqual(x, kept) || f.Code != api.OK && !reflect.DeepEqual(got, api.Tree{}) {
		t.Fatalf("%s was changed, or a tree is answered beside %v", tree.Text(kept), f)
	}
	return f
}

func TestFillOfSamples(t *testing.T) {
	m := &sample.Maker{Seed: 23}
	met := map[api.Errno]int{}
	for range 2500 {
		s := m.Shuffled(m.Accepted(1 + m.UpTo(5)))
		if len(s.Nodes) > 150 || !slices.ContainsFunc(s.Nodes, linked) && m.UpTo(10) > 0 {
			continue
		}
		maker, f := valid.New(s)
		if f != (api.Fault{}) {
			t.Fatalf("%s: %v", show.Text(s), f)
		}
		o := judge(s)
		for _, x := range m.Planted(s, 20) {
			if tree.Parts(x) > 400 {
				continue
			}
			for range max(0, m.UpTo(5)-2) {
				x = m.Spoilt(x)
			}
			met[wantFill(t, maker, o, x).Code]++
		}
	}
	for _, code := range append(slices.Clone(order()), api.OK) {
		if met[code] < 5 {
			t.Errorf("met: %v", met)
		}
	}
}

// texts are specifications in which much goes by what is ahead, or far behind.
func texts() []string {
	return []string{
		"main = { n: u8 = size(d); d: bytes[n]; };",
		"main = { n: u8 = size(w); m: u8 0..3; k: u8 = size(b); c: u8 = count(t); b: bytes[k]; t: times[c] u8 0..9; w: within[n] { x: bytes[m]; y: bytes[k]; z: times[c] /a[bc]/; s: switch m { 0: empty; 1: u8; else: u16be; }; }; };",
		"main = { n: varint = size(w); a: u8 0..2; w: within[n] { o: u8 = size(v); b: u8 1..4; v: within[o] { p: u8 0..4 = size(u); u: within[p] many u8 0..99; d: bytes[b]; }; }; e: u32be = crc(n..w); };",
		"main = { m: u8 = size(v); n: u8 = size(w); k: u8 0..3; w: within[n] bytes[k]; v: within[m] times[k] u8; e: bytes[n]; };",
		"main = { m: u8 = size(v); n: u8 = size(w); k: u8 0..3; v: within[m] times[k] u8 1..9; w: within[n] { a: u8 = size(b); c: /x/; b: within[a] bytes[k]; }; };",
		"main = { n: u8 = size(w); x: bytes[n]; w: within[n] many u8; };",
		"main = { n: u8 2..5 = size(d); x: bytes[2*n+1]; y: switch n % 3 { 0: u8; 2: u16le; }; d: bytes[n]; c: u8 = count(t); s: u32le = crc(x..x); t: times[c] varint 5..500; };",
		"main = { m: u8 0..2; a: bytes[9223372036854775808*m]; t: times[9223372036854775808*m] u8; w: within[9223372036854775808*m] many u8; s: switch m { 0: u8; else: bytes[m+18446744073709551614]; }; };",
		"main = chain { { n: u8 1..63 = size(t); t: bytes[n]; } | last u8 0..0 | last u16be 49152..65535 };",
		"a = { n: u8 = size(w); k: u8 0..2; w: within[n] times[k] oneof { u8 0..9 | /x[0-9];/ }; }; b = many a; main = { n: u8 = size(w); k: u8 5..6; l: u8 = size(v); w: within[n] b; v: within[l] { x: a; y: many u8 0..7; }; };",
		"a = { n: u8 = count(t); k: varint lenient 0..2; t: times[n] within[k+1] many u8; }; main = { n: u8 = size(w); x: a; y: a; w: within[n] { z: a; v: a; }; };",
		"field = { key: varint lenient 8..4294967295; value: switch key % 8 { 0: varint lenient; 1: u64le; 2: { n: varint lenient = size(d); d: bytes[n]; }; 5: u32le; }; }; main = many field;",
		"chunk = { len: u32be 0..2147483647 = size(data); type: /[A-Za-z]{4}/; data: bytes[len]; sum: u32be = crc(type..data); }; main = { sig: /\\x89PNG\\r\\n\\x1a\\n/; chunks: many chunk; };",
		"name = chain { { n: u8 1..63 = size(t); t: bytes[n]; } | last u8 0..0 | last u16be 49152..65535 }; question = { qname: name; qtype: u16be; }; main = { id: u16be; qd: u16be = count(questions); an: u8 = count(answers); questions: times[qd] question; answers: times[an] question; };",
	}
}

func TestFillOfTexts(t *testing.T) {
	m := &sample.Maker{Seed: 24}
	for _, text := range texts() {
		s := read(t, text)
		maker, f := valid.New(s)
		if f != (api.Fault{}) {
			t.Fatalf("%s: %v", text, f)
		}
		o := judge(s)
		met := map[api.Fault]int{}
		for _, x := range m.Planted(s, 4000) {
			for range max(0, m.UpTo(5)-1) {
				x = m.Spoilt(x)
			}
			met[wantFill(t, maker, o, x)]++
		}
		if len(met) < 8 || met[api.Fault{}] < 300 {
			t.Errorf("%s: met %v", text, met)
		}
	}
}
