package lower_test

import (
	"maps"
	"math"
	"reflect"
	"slices"
	"strconv"
	"strings"
	"testing"

	"guipure/api"
	"guipure/class"
	"guipure/code"
	"guipure/dfa"
	"guipure/first"
	"guipure/lower"
	"guipure/parse"
	"guipure/regex"
	"guipure/sample"
	"guipure/scope"
	"guipure/show"
	"guipure/spec"
)

// read: the specification of a text.
func read(t *testing.T, text string) api.Spec {
	t.Helper()
	s, f := parse.Parse(text)
	if f.Code != api.OK {
		t.Fatalf("Parse of %.200q: %v", text, f)
	}
	return s
}

// result: the program of a specification that is accepted.
func result(t *testing.T, s api.Spec) *lower.Result {
	t.Helper()
	r, f := lower.Make(s)
	if f != (api.Fault{}) || r == nil {
		t.Fatalf("Make of %.300s: %v", show.Text(s), f)
	}
	return r
}

// told: a step in words: its kind, and all that isn't zero.
func told(s code.Step) string {
	words := []string{code.Name(s.Kind)}
	add := func(name string, n uint64) {
		if n != 0 {
			words = append(words, name+strconv.FormatUint(n, 10))
		}
	}
	for _, x := range []struct {
		name string
		n    int
	}{{"a", s.A}, {"b", s.B}} {
		if x.n != 0 {
			words = append(words, x.name+strconv.Itoa(x.n))
		}
	}
	if s.Flag {
		words = append(words, "flag")
	}
	add("min", s.Min)
	add("max", s.Max)
	add("mul", s.Mul)
	add("add", s.Add)
	for i, w := range s.Ways {
		var bytes class.Set
		for c, way := range s.Bytes {
			if int(way) == i+1 {
				bytes = bytes.Or(class.Of(byte(c)))
			}
		}
		word := strconv.FormatUint(w.Value, 10) + ">" + strconv.Itoa(w.To)
		if !bytes.Empty() {
			word = class.Text(bytes) + word
		}
		words = append(words, word)
	}
	return strings.Join(words, " ")
}

// want tells if a text's program hasn't just these steps.
func want(t *testing.T, text string, steps ...string) *lower.Result {
	t.Helper()
	r := result(t, read(t, text))
	var got []string
	for _, s := range r.Program.Steps {
		got = append(got, told(s))
	}
	if !slices.Equal(got, steps) {
		t.Errorf("%s:\n%s\nwant\n%s", text, strings.Join(got, "\n"), strings.Join(steps, "\n"))
	}
	return r
}

// P20.1

func TestRefused(t *testing.T) {
	for _, text := range sample.Refused() {
		s := read(t, text)
		want := first.Check(s)
		if r, f := lower.Make(s); r != nil || f != want || f.Code == api.OK {
			t.Errorf("%s: %v, %v, want %v", text, r, f, want)
		}
	}
	if r, f := lower.Make(api.Spec{}); r != nil || f != (api.Fault{Code: api.ErrLong}) {
		t.Errorf("of nothing: %v, %v", r, f)
	}
}

func TestRefusedRawOnes(t *testing.T) {
	for _, s := range sample.Wrongs() {
		kept := spec.Clone(s)
		want := first.Check(s)
		if r, f := lower.Make(s); f != want || (r == nil) != (f.Code != api.OK) {
			t.Errorf("Make of %+v: %v, want %v", s, f, want)
		}
		if !reflect.DeepEqual(s, kept) {
			t.Errorf("what was handed in was changed: %+v", s)
		}
	}
}

// P20.2

func TestLeaves(t *testing.T) {
	want(t, "main = u8;", "fixed a1 max255", "end")
	want(t, "main = u24le 7..9;", "fixed a3 flag min7 max9", "end")
	want(t, "main = u16be;", "fixed a2 max65535", "end")
	want(t, "main = varint 3..300;", "varint min3 max300", "end")
	want(t, "main = varint lenient;", "varint flag max18446744073709551615", "end")
	want(t, "main = zigzag 1..2;", "varint min1 max2", "end") // signs are the trees' readers' matter
	want(t, "main = bytes[7];", "blob a-1 add7", "end")
	want(t, "main = empty;", "open", "close", "end")
	r := want(t, "main = /ab|c/;", "token", "end")
	if p := r.Program; len(r.Autos) != 1 || !r.Autos[0].Match([]byte("ab")) || r.Autos[0].Match([]byte("a")) || p.Slots != 0 || p.Sums != 0 || p.Autos != 1 || len(r.Slots) != 0 {
		t.Errorf("%+v", r)
	}
}

func TestRecords(t *testing.T) {
	r := want(t, "main = { n: u8 = size(d); d: bytes[n]; t: /ab/; };", "open", "fixed a1 max255", "blob mul1", "token", "close", "end")
	if !maps.Equal(r.Slots, map[int]int{0: 0}) || r.Program.Slots != 1 {
		t.Errorf("%v, %d", r.Slots, r.Program.Slots)
	}
	want(t, "main = { m: u8; n: u8; d: bytes[2*n+3]; e: bytes[m]; f: { g: bytes[n+1]; n2: u8; h: bytes[n2]; }; };",
		"open", "fixed a1 max255", "fixed a1 b1 max255", "blob a1 mul2 add3", "blob mul1",
		"open", "blob a1 mul1 add1", "fixed a1 b2 max255", "blob a2 mul1", "close",
		"close", "end")
	r = want(t, "main = { a: /a/; b: /b/; };", "open", "token", "token a1", "close", "end")
	if len(r.Autos) != 2 || !r.Autos[0].Match([]byte("a")) || !r.Autos[1].Match([]byte("b")) {
		t.Errorf("%v", r.Autos)
	}
	want(t, "a = /a/; b = /b/; main = { x: { y: u8; }; };", "open", "open", "fixed a1 max255", "close", "close", "end", "token", "return", "token a1", "return")
}

func TestChecksums(t *testing.T) {
	r := want(t, "main = { a: u8; b: u8; s: u32be = crc(a..b); };",
		"open", "mark", "fixed a1 max255", "fixed a1 b1 max255", "stop", "fixed a4 b2 max4294967295", "sum b2", "close", "end")
	if r.Program.Sums != 1 {
		t.Errorf("%d sums", r.Program.Sums)
	}
	want(t, "main = { a: u8; s: u32le = crc(a..a); };",
		"open", "mark", "fixed a1 max255", "stop", "fixed a4 b1 flag max4294967295", "sum b1", "close", "end")
	want(t, "main = { a: u8; b: u8; s: u32be = crc(b..b); r: u32be = crc(a..b); };", // two begin, and end, with other fields
		"open", "mark a1", "fixed a1 max255", "mark", "fixed a1 b1 max255", "stop", "stop a1",
		"fixed a4 b2 max4294967295", "sum b2", "fixed a4 b3 max4294967295", "sum a1 b3", "close", "end")
	want(t, "main = { a: u8; s: u32be = crc(a..a); r: u32be = crc(s..s); q: u32be = crc(a..r); };", // of checksums
		"open", "mark", "mark a2", "fixed a1 max255", "stop", "mark a1", "fixed a4 b1 max4294967295", "sum b1", "stop a1",
		"fixed a4 b2 max4294967295", "sum a1 b2", "stop a2", "fixed a4 b3 max4294967295", "sum a2 b3", "close", "end")
	want(t, "main = { a: { b: u8; s: u32be = crc(b..b); }; c: empty; s2: u32be = crc(a..c); };", // in each other
		"open", "mark", "open", "mark a1", "fixed a1 max255", "stop a1", "fixed a4 b1 max4294967295", "sum a1 b1", "close",
		"open", "close", "stop", "fixed a4 b2 max4294967295", "sum b2", "close", "end")
}

func TestLists(t *testing.T) {
	want(t, "main = times[3] u8;", "count a-1 add3", "next a4", "fixed a1 max255", "jump a1", "close", "end")
	want(t, "main = { n: u8 = count(t); t: times[n] bytes[2]; };",
		"open", "fixed a1 max255", "count mul1", "next a6", "blob a-1 add2", "jump a3", "close", "close", "end")
	want(t, "main = many u8;", "open", "many a4", "fixed a1 max255", "jump a1", "close", "end")
	want(t, "main = many { a: u8; b: bytes[a]; };",
		"open", "many a7", "open", "fixed a1 max255", "blob mul1", "close", "jump a1", "close", "end")
	want(t, "main = times[2] times[5] u8;",
		"count a-1 add2", "next a8", "count a-1 add5", "next a6", "fixed a1 max255", "jump a3", "close", "jump a1", "close", "end")
	want(t, "main = within[4] many u8;", "enter a-1 add4", "open", "many a5", "fixed a1 max255", "jump a2", "close", "leave", "end")
	want(t, "main = { m: u8; n: u8 = size(w); w: within[n] u8; };",
		"open", "fixed a1 max255", "fixed a1 b1 max255", "enter a1 mul1", "fixed a1 b2 max255", "leave", "close", "end")
}

func TestSwitches(t *testing.T) {
	want(t, "main = { n: u8; s: switch n { 7: u8; 3: empty; }; };",
		"open", "fixed a1 max255",
		"open", "switch b-1 7>4 3>6", "fixed a1 b1 max255", "jump a9", "open", "close", "jump a9", "close",
		"close", "end")
	want(t, "main = { m: u8; n: u8; s: switch n % 8 { 7: u8; else: { a: u8; b: bytes[m]; }; }; };",
		"open", "fixed a1 max255", "fixed a1 b1 max255",
		"open", "switch a1 b7 add8 7>5", "fixed a1 b2 max255", "jump a11", "open", "fixed a1 b3 max255", "blob mul1", "close", "close",
		"close", "end")
	want(t, "main = { n: u8; s: switch n { 18446744073709551615: u8; else: empty; }; };",
		"open", "fixed a1 max255",
		"open", "switch b6 18446744073709551615>4", "fixed a1 b1 max255", "jump a8", "open", "close", "close",
		"close", "end")
}

func TestChoices(t *testing.T) {
	want(t, "main = oneof { u8 0..9 | /x[0-9];/ };",
		`choice [\x00-\x09]0>1 x1>4`, "fixed a1 max9", "close", "jump a7", "token", "close", "jump a7", "end")
	want(t, "main = oneof { u8 };", "choice .0>1", "fixed a1 max255", "close", "jump a4", "end")
	want(t, "main = oneof { /a/ | within[1] empty };", "choice a0>1 1>4", "token", "close", "jump a10", "enter a-1 add1", "open", "close", "leave", "close", "jump a10", "end")
	want(t, "main = { c: oneof { u8 0..9 | oneof { /a/ | /b/ } }; d: empty; };",
		"open", `choice [\x00-\x09]0>2 [a-b]1>5`, "fixed a1 max9", "close", "jump a14",
		"choice a0>6 b1>9", "token", "close", "jump a12", "token a1", "close", "jump a12", "close", "jump a14",
		"open", "close", "close", "end")
}

func TestChains(t *testing.T) {
	want(t, "main = chain { u8 0..9 | last /x/ | u8 10..20 | last /y/ };",
		"open", `choice [\x00-\x09]0>2 x1>5 [\x0a-\x14]2>8 y3>11`,
		"fixed a1 max9", "close", "jump a1",
		"token", "close", "jump a14",
		"fixed a1 b1 min10 max20", "close", "jump a1",
		"token a1", "close", "jump a14",
		"close", "end")
}

func TestNames(t *testing.T) {
	want(t, "a = u8; main = a;", "call a2", "end", "fixed a1 max255", "return")
	want(t, "a = u8; b = a; main = { x: b; y: a; z: b; };",
		"open", "call a8", "call a6", "call a8", "close", "end",
		"fixed a1 max255", "return",
		"call a6", "return")
	want(t, "unused = many /a/; main = u8;", "fixed a1 max255", "end", "open", "many a6", "token", "jump a3", "close", "return")
}

// texts are specifications of which much is made of.
func texts() []string {
	return []string{
		"field = { key: varint lenient 8..4294967295; value: switch key % 8 { 0: varint lenient; 1: u64le; 2: { n: varint lenient = size(d); d: bytes[n]; }; 5: u32le; }; }; main = many field;",
		"chunk = { len: u32be 0..2147483647 = size(data); type: /[A-Za-z]{4}/; data: bytes[len]; sum: u32be = crc(type..data); }; main = { sig: /\\x89PNG\\r\\n\\x1a\\n/; chunks: many chunk; };",
		"name = chain { { n: u8 1..63 = size(t); t: bytes[n]; } | last u8 0..0 | last u16be 49152..65535 }; question = { qname: name; qtype: u16be; }; main = { id: u16be; qd: u16be = count(questions); an: u8 = count(answers); questions: times[qd] question; answers: times[an] name; };",
		"a = chain { last chain { /x/ | last /y/ } | oneof { /a/ | chain { last /b/ } } }; b = many a; main = { n: u8; w: within[n] b; s: switch n { 0: a; 1: { k: u8; s1: u32be = crc(k..k); s2: u32le = crc(k..s1); }; else: switch n % 2 { 1: a; }; }; t: times[2*n+1] a; };",
	}
}

// wantLaid tells if a result's steps don't stand as they must, or its slots, sums and automata aren't each its own.
func wantLaid(t *testing.T, s api.Spec, r *lower.Result) {
	t.Helper()
	l := lay(s, r)
	if !slices.EqualFunc(r.Program.Steps, l.steps, func(a, b code.Step) bool {
		return told(a) == told(b) && a.Bytes == b.Bytes && slices.Equal(a.Ways, b.Ways)
	}) {
		t.Fatalf("%s:\n%s\nwant\n%s", show.Text(s), strings.Join(code.Lines(r.Program), "\n"), strings.Join(code.Lines(code.Program{Steps: l.steps}), "\n"))
	}
	if f := code.Check(r.Program); f != (api.Fault{}) {
		t.Fatalf("%s: %v", show.Text(s), f)
	}
	var numbers []int
	for at, n := range s.Nodes {
		if spec.Number(n) {
			numbers = append(numbers, at)
		}
	}
	if !slices.Equal(slices.Sorted(maps.Keys(r.Slots)), numbers) || !all(slices.Collect(maps.Values(r.Slots)), r.Program.Slots) {
		t.Fatalf("%s: the slots %v, of %d", show.Text(s), r.Slots, r.Program.Slots)
	}
	if !all(l.sums, r.Program.Sums) || !all(l.autos, r.Program.Autos) || len(r.Autos) != r.Program.Autos {
		t.Fatalf("%s: the sums %v of %d, the automata %v of %d", show.Text(s), l.sums, r.Program.Sums, l.autos, len(r.Autos))
	}
}

// all: are these all numbers from 0 to less than so many, each once?
func all(list []int, many int) bool {
	list = slices.Sorted(slices.Values(list))
	for i, n := range list {
		if n != i {
			return false
		}
	}
	return len(list) == many
}

// wantAutos tells if a Token's automaton isn't that of its expression.
func wantAutos(t *testing.T, s api.Spec, r *lower.Result) {
	t.Helper()
	which := lay(s, r).autos
	last := len(s.Defs) - 1
	for _, d := range append([]api.Def{s.Defs[last]}, s.Defs[:last]...) {
		spec.Each(s, d.Type, func(at int) bool {
			if s.Nodes[at].Kind != api.Token {
				return true
			}
			n, _ := regex.Parse(s.Nodes[at].Text)
			if a, _ := dfa.Of(n); !dfa.Same(a, r.Autos[which[0]]) {
				t.Errorf("%s: another automaton of /%s/", show.Text(s), s.Nodes[at].Text)
			}
			which = which[1:]
			return true
		})
	}
}

// wantReached tells if the steps that can be met aren't just those of the names that are needed.
func wantReached(t *testing.T, s api.Spec, r *lower.Result) {
	t.Helper()
	l := lay(s, r)
	met := code.Reached(r.Program)
	need := scope.Needed(s)
	last := len(s.Defs) - 1
	l.begins[s.Defs[last].Name] = 0
	for _, d := range s.Defs {
		begin := l.begins[d.Name]
		for at := begin; at <= begin+l.many(d.Type); at++ {
			if met[at] != slices.Contains(need, d.Name) {
				t.Fatalf("%s: the step %d of %s can be met: %v", show.Text(s), at, d.Name, met[at])
			}
		}
	}
}

func TestSamples(t *testing.T) {
	m := &sample.Maker{Seed: 30}
	kinds := map[int]int{}
	for i := range 1500 {
		s := m.Shuffled(m.Accepted(1 + i%5))
		if i < len(texts()) {
			s = read(t, texts()[i])
		}
		kept := spec.Clone(s)
		r := result(t, s)
		if !reflect.DeepEqual(s, kept) {
			t.Fatalf("%s was changed", show.Text(kept))
		}
		wantLaid(t, s, r)
		wantReached(t, s, r)
		if i%10 == 0 {
			wantAutos(t, s, r)
		}
		for _, step := range r.Program.Steps {
			kinds[step.Kind]++
		}
	}
	for kind := code.Open; kind <= code.End; kind++ {
		if kinds[kind] < 20 {
			t.Errorf("met: %v", kinds)
		}
	}
}

// Nearly as many types as there may be.
func TestGreatOnes(t *testing.T) {
	var s api.Spec
	put := func(n api.Node) int {
		s.Nodes = append(s.Nodes, n)
		return len(s.Nodes) - 1
	}
	var around func(left int) int
	around = func(left int) int { // a Chain, whose first type is a Record of a number and such a Chain
		n := api.Node{Kind: api.Chain}
		for i := range spec.MaxParts {
			kid := put(api.Node{Kind: api.Fixed, Width: 1, Min: uint64(i), Max: uint64(i)})
			if i == 0 && left > 0 {
				name := strconv.Itoa(left)
				inner := put(api.Node{Kind: api.Within, Expr: api.Expr{Add: math.MaxUint64}, Kids: []int{around(left - 1)}})
				kid = put(api.Node{Kind: api.Record, Fields: []api.Field{{Name: "a" + name, Type: kid}, {Name: "b" + name, Type: inner}}})
			}
			n.Kids, n.Last = append(n.Kids, kid), append(n.Last, i%2 == 1)
		}
		return put(n)
	}
	s.Defs = []api.Def{{Name: "main", Type: around(29)}}
	r := result(t, s)
	wantLaid(t, s, r)
	if len(s.Nodes) < 2000 || len(s.Nodes) > spec.MaxNodes || len(r.Program.Steps) < 5000 {
		t.Errorf("%d types, %d steps", len(s.Nodes), len(r.Program.Steps))
	}
	deep := sample.Nested(scope.MaxNest)
	deep.Nodes[0] = api.Node{Kind: api.Fixed, Width: 1, Max: 255}
	for at := 1; at < len(deep.Nodes); at++ {
		deep.Nodes[at].Kind, deep.Nodes[at].Expr = api.Times, api.Expr{Add: 1}
	}
	wantLaid(t, deep, result(t, deep))
}

// A result keeps nothing of what was handed in, and shares nothing with another one.
func TestResultsAreTheirOwn(t *testing.T) {
	text := "a = chain { /x/ | last u8 0..9 }; main = { n: u8; d: oneof { a | /y[a-z]/ }; s: switch n { 0: empty; else: a; }; };"
	s := read(t, text)
	r, again := result(t, s), result(t, s)
	wanted := code.Lines(again.Program)
	for i := range s.Nodes {
		clear(s.Nodes[i].Kids)
		clear(s.Nodes[i].Fields)
		clear(s.Nodes[i].Cases)
		s.Nodes[i] = api.Node{Kind: api.Empty}
	}
	clear(s.Defs)
	steps := r.Program.Steps[:cap(r.Program.Steps)]
	for i := range steps {
		clear(steps[i].Ways[:cap(steps[i].Ways)])
		steps[i] = code.Step{}
	}
	clear(r.Slots)
	for _, a := range r.Autos {
		a.Accept[0] = true
		for _, row := range a.Next {
			clear(row)
		}
	}
	clear(r.Autos)
	s = read(t, text)
	if !slices.Equal(code.Lines(again.Program), wanted) {
		t.Errorf("%q, want %q", code.Lines(again.Program), wanted)
	}
	wantLaid(t, s, again)
	wantAutos(t, s, again)
	wantLaid(t, s, result(t, s))
}
