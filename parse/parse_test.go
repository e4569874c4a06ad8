package parse_test

import (
	"math"
	"reflect"
	"strings"
	"testing"

	"guipure/api"
	"guipure/lex"
	"guipure/parse"
	"guipure/sample"
	"guipure/spec"
	"guipure/wide"
)

// read: the specification of a text that is right.
func read(t *testing.T, text string) api.Spec {
	t.Helper()
	s, f := parse.Parse(text)
	if f != (api.Fault{}) {
		t.Fatalf("Parse of %.200q: %v", text, f)
	}
	if e := spec.Check(s); e != api.OK {
		t.Fatalf("Parse of %.200q: layer 11's %v", text, e)
	}
	return s
}

// wantFault tells if a text isn't refused so.
func wantFault(t *testing.T, text string, want api.Fault) {
	t.Helper()
	if s, f := parse.Parse(text); f != want || !reflect.DeepEqual(s, api.Spec{}) {
		t.Errorf("Parse of %.200q: %+v, %v, want %v", text, s, f, want)
	}
}

// marked: a text without its `@`, and where that was.
func marked(t *testing.T, text string) (string, int) {
	t.Helper()
	ahead, behind, ok := strings.Cut(text, "@")
	if !ok {
		t.Fatalf("%q tells no place", text)
	}
	return ahead + behind, len(ahead)
}

// wantAt: likewise, the place marked by an `@`.
func wantAt(t *testing.T, text string, code api.Errno) {
	t.Helper()
	text, at := marked(t, text)
	wantFault(t, text, api.Fault{Code: code, At: at})
}

// P12.1

func TestTypes(t *testing.T) {
	all := uint64(math.MaxUint64)
	leaf := func(n api.Node) []api.Node { return []api.Node{n} }
	blob := func(x api.Expr) []api.Node { return leaf(api.Node{Kind: api.Blob, Expr: x}) }
	u8 := api.Node{Kind: api.Fixed, Width: 1, Max: 255}
	empty := api.Node{Kind: api.Empty}
	for text, want := range map[string][]api.Node{
		"u8":         leaf(u8),
		"u8 0..255":  leaf(u8),
		"u8 7..7":    leaf(api.Node{Kind: api.Fixed, Width: 1, Min: 7, Max: 7}),
		"u16be":      leaf(api.Node{Kind: api.Fixed, Width: 2, Max: 65535}),
		"u24le 1..9": leaf(api.Node{Kind: api.Fixed, Width: 3, Little: true, Min: 1, Max: 9}),
		"u56le":      leaf(api.Node{Kind: api.Fixed, Width: 7, Little: true, Max: 1<<56 - 1}),
		"u64be":      leaf(api.Node{Kind: api.Fixed, Width: 8, Max: all}),
		"u64le 18446744073709551615..18446744073709551615": leaf(api.Node{Kind: api.Fixed, Width: 8, Little: true, Min: all, Max: all}),
		"varint":                leaf(api.Node{Kind: api.Varint, Max: all}),
		"zigzag":                leaf(api.Node{Kind: api.Varint, Zig: true, Max: all}),
		"varint lenient":        leaf(api.Node{Kind: api.Varint, Lenient: true, Max: all}),
		"zigzag lenient 3..4":   leaf(api.Node{Kind: api.Varint, Zig: true, Lenient: true, Min: 3, Max: 4}),
		"varint 300..300":       leaf(api.Node{Kind: api.Varint, Min: 300, Max: 300}),
		"/a b#/":                leaf(api.Node{Kind: api.Token, Text: "a b#"}),
		"/(/":                   leaf(api.Node{Kind: api.Token, Text: "("}), // whether it is an expression, layer 16 looks at
		"bytes[0]":              blob(api.Expr{}),
		"bytes[7]":              blob(api.Expr{Add: 7}),
		"bytes[n]":              blob(api.Expr{Reg: "n", Mul: 1}),
		"bytes[1*n]":            blob(api.Expr{Reg: "n", Mul: 1}),
		"bytes[2*n]":            blob(api.Expr{Reg: "n", Mul: 2}),
		"bytes[n+3]":            blob(api.Expr{Reg: "n", Mul: 1, Add: 3}),
		"bytes[2*n+0]":          blob(api.Expr{Reg: "n", Mul: 2}),
		"bytes [ 2 * n + 3 ]":   blob(api.Expr{Reg: "n", Mul: 2, Add: 3}),
		"empty":                 leaf(empty),
		"other":                 leaf(api.Node{Kind: api.Use, Text: "other"}),
		"main":                  leaf(api.Node{Kind: api.Use, Text: "main"}), // likewise layer 14
		"u8be":                  leaf(api.Node{Kind: api.Use, Text: "u8be"}),
		"many u8":               {u8, {Kind: api.Many, Kids: []int{0}}},
		"times[3] u8":           {u8, {Kind: api.Times, Expr: api.Expr{Add: 3}, Kids: []int{0}}},
		"within[2*n+1] u8":      {u8, {Kind: api.Within, Expr: api.Expr{Reg: "n", Mul: 2, Add: 1}, Kids: []int{0}}},
		"many many many empty":  {empty, {Kind: api.Many, Kids: []int{0}}, {Kind: api.Many, Kids: []int{1}}, {Kind: api.Many, Kids: []int{2}}},
		"oneof{u8}":             {u8, {Kind: api.Choice, Kids: []int{0}}},
		"oneof { empty | u8 }":  {empty, u8, {Kind: api.Choice, Kids: []int{0, 1}}},
		"chain { u8 }":          {u8, {Kind: api.Chain, Kids: []int{0}, Last: []bool{false}}},
		"chain{u8|last empty}":  {u8, empty, {Kind: api.Chain, Kids: []int{0, 1}, Last: []bool{false, true}}},
		"chain{last u8|last a}": {u8, {Kind: api.Use, Text: "a"}, {Kind: api.Chain, Kids: []int{0, 1}, Last: []bool{true, true}}},
		"{ a: u8; }":            {u8, {Kind: api.Record, Fields: []api.Field{{Name: "a"}}}},
		"{ a: u8 = size(b); b: empty; }": {u8, empty, {Kind: api.Record, Fields: []api.Field{
			{Name: "a", Derive: api.SizeOf, Of: "b"}, {Name: "b", Type: 1}}}},
		"{a:u8=count(b);a:empty=crc(c..d);}": {u8, empty, {Kind: api.Record, Fields: []api.Field{
			{Name: "a", Derive: api.CountOf, Of: "b"}, {Name: "a", Type: 1, Derive: api.SumOf, Of: "c", To: "d"}}}},
		"{ a: u8 1..2 = size(a); }":                           {{Kind: api.Fixed, Width: 1, Min: 1, Max: 2}, {Kind: api.Record, Fields: []api.Field{{Name: "a", Derive: api.SizeOf, Of: "a"}}}},
		"switch n { 0: u8; }":                                 {u8, {Kind: api.Switch, Reg: "n", Cases: []api.Case{{}}, Else: -1}},
		"switch n%8{5:u8;5:empty;}":                           {u8, empty, {Kind: api.Switch, Reg: "n", Mod: 8, Cases: []api.Case{{Value: 5}, {Value: 5, Type: 1}}, Else: -1}},
		"switch n { 18446744073709551615: u8; else: empty; }": {u8, empty, {Kind: api.Switch, Reg: "n", Cases: []api.Case{{Value: all}}, Else: 1}},
		"switch n % 1 { 0: many u8; else: empty; }":           {u8, {Kind: api.Many, Kids: []int{0}}, empty, {Kind: api.Switch, Reg: "n", Mod: 1, Cases: []api.Case{{Type: 1}}, Else: 2}},
		"oneof { { a: u8; b: many empty; } | oneof { u8 } }": {u8, empty, {Kind: api.Many, Kids: []int{1}},
			{Kind: api.Record, Fields: []api.Field{{Name: "a"}, {Name: "b", Type: 2}}}, u8, {Kind: api.Choice, Kids: []int{4}}, {Kind: api.Choice, Kids: []int{3, 5}}},
	} {
		whole := api.Spec{Nodes: want, Defs: []api.Def{{Name: "main", Type: len(want) - 1}}}
		if s := read(t, "main = "+text+";"); !reflect.DeepEqual(spec.Clone(s), whole) {
			t.Errorf("%s: %+v", text, s)
		}
		behind := read(t, "a=u8;main\n=#\n"+text+"#;\n;#") // each type behind those of the names ahead
		if len(behind.Nodes) != len(want)+1 || behind.Defs[1] != (api.Def{Name: "main", Type: len(want)}) || spec.Root(behind) != len(want) {
			t.Errorf("%s: %+v", text, behind)
		}
	}
}

func TestNames(t *testing.T) {
	s := read(t, "a = u8; b = many a; a = empty; Size = b;")
	want := []api.Def{{Name: "a", Type: 0}, {Name: "b", Type: 2}, {Name: "a", Type: 3}, {Name: "Size", Type: 4}}
	if !reflect.DeepEqual(s.Defs, want) { // whether there are two of one name, layer 14 looks at
		t.Errorf("names: %+v", s.Defs)
	}
}

// writer writes specifications as a seed tells: what needn't stand stands, or doesn't.
type writer struct {
	*sample.Maker
	words []string
}

func (w *writer) put(words ...string) { w.words = append(w.words, words...) }

// often: how many.
func (w *writer) often(x api.Expr) {
	w.put("[")
	defer w.put("]")
	if x.Reg == "" {
		w.put(wide.Digits(x.Add))
		return
	}
	if x.Mul != 1 || w.UpTo(2) == 0 {
		w.put(wide.Digits(x.Mul), "*")
	}
	w.put(x.Reg)
	if x.Add != 0 || w.UpTo(2) == 0 {
		w.put("+", wide.Digits(x.Add))
	}
}

// number: a Fixed, or a Varint.
func (w *writer) number(n api.Node) {
	switch {
	case n.Kind == api.Fixed && n.Width == 1:
		w.put("u8")
	case n.Kind == api.Fixed && n.Little:
		w.put("u" + wide.Digits(uint64(8*n.Width)) + "le")
	case n.Kind == api.Fixed:
		w.put("u" + wide.Digits(uint64(8*n.Width)) + "be")
	case n.Zig:
		w.put("zigzag")
	default:
		w.put("varint")
	}
	if n.Lenient {
		w.put("lenient")
	}
	if n.Min != 0 || n.Max != spec.Most(n) || w.UpTo(2) == 0 {
		w.put(wide.Digits(n.Min), "..", wide.Digits(n.Max))
	}
}

// field: one of a Record.
func (w *writer) field(s api.Spec, f api.Field) {
	w.put(f.Name, ":")
	w.kind(s, f.Type)
	switch f.Derive {
	case api.SizeOf:
		w.put("=", "size", "(", f.Of, ")")
	case api.CountOf:
		w.put("=", "count", "(", f.Of, ")")
	case api.SumOf:
		w.put("=", "crc", "(", f.Of, "..", f.To, ")")
	}
	w.put(";")
}

// kind: a type.
func (w *writer) kind(s api.Spec, at int) {
	n := s.Nodes[at]
	switch n.Kind {
	case api.Fixed, api.Varint:
		w.number(n)
	case api.Token:
		w.put("/" + n.Text + "/")
	case api.Blob:
		w.put("bytes")
		w.often(n.Expr)
	case api.Times, api.Within:
		w.put([]string{"times", "", "within"}[n.Kind-api.Times])
		w.often(n.Expr)
		w.kind(s, n.Kids[0])
	case api.Many:
		w.put("many")
		w.kind(s, n.Kids[0])
	case api.Record:
		w.put("{")
		for _, f := range n.Fields {
			w.field(s, f)
		}
		w.put("}")
	case api.Switch:
		w.choose(s, n)
	case api.Choice, api.Chain:
		w.among(s, n)
	case api.Empty:
		w.put("empty")
	case api.Use:
		w.put(n.Text)
	}
}

// choose: a Switch.
func (w *writer) choose(s api.Spec, n api.Node) {
	w.put("switch", n.Reg)
	if n.Mod != 0 {
		w.put("%", wide.Digits(n.Mod))
	}
	w.put("{")
	for _, c := range n.Cases {
		w.put(wide.Digits(c.Value), ":")
		w.kind(s, c.Type)
		w.put(";")
	}
	if n.Else >= 0 {
		w.put("else", ":")
		w.kind(s, n.Else)
		w.put(";")
	}
	w.put("}")
}

// among: a Choice or a Chain.
func (w *writer) among(s api.Spec, n api.Node) {
	w.put([]string{"oneof", "chain"}[n.Kind-api.Choice], "{")
	for i, kid := range n.Kids {
		if i > 0 {
			w.put("|")
		}
		if n.Kind == api.Chain && n.Last[i] {
			w.put("last")
		}
		w.kind(s, kid)
	}
	w.put("}")
}

// joined: words as a text, with blanks and notes between, or without, where that is the same.
func (w *writer) joined() string {
	var out strings.Builder
	gaps := []string{" ", "\n", "\t\r\n  ", "#\n", " # a = u8; /\n"}
	for _, word := range w.words {
		if w.UpTo(4) == 0 && strings.Contains("={};[]():|*+%..", word) {
			out.WriteString(word)
			continue
		}
		out.WriteString(gaps[w.UpTo(len(gaps))] + word + gaps[w.UpTo(len(gaps))])
	}
	return out.String()
}

// written: a specification as a text.
func written(m *sample.Maker, s api.Spec) *writer {
	w := &writer{Maker: m}
	for _, d := range s.Defs {
		w.put(d.Name, "=")
		w.kind(s, d.Type)
		w.put(";")
	}
	return w
}

// P12.2

func TestParseOfSamples(t *testing.T) {
	m := &sample.Maker{Seed: 8}
	for range 1000 {
		s := m.Spec(m.UpTo(5))
		if len(s.Nodes) > 500 {
			continue
		}
		text := written(m, s).joined()
		if got := read(t, text); !reflect.DeepEqual(got, s) || !spec.Same(got, s) {
			t.Fatalf("%s: %+v, want %+v", text, got, s)
		}
	}
}

// stray are tokens that stand where they can't, mostly.
var stray = strings.Fields(words + " u8 u16be a = ; { } [ ] ( ) : | * + % .. 1 18446744073709551615 /x/ //")

// changed: some tokens, one of which is another one, or isn't there, or has another one ahead of it; or they end there.
func changed(m *sample.Maker, list []string) []string {
	at := m.UpTo(len(list))
	out := append([]string{}, list[:at]...)
	switch m.UpTo(4) {
	case 0:
		return out
	case 1:
		return append(out, list[at+1:]...)
	case 2:
		return append(append(out, stray[m.UpTo(len(stray))]), list[at:]...)
	}
	other := stray[m.UpTo(len(stray))]
	if _, e := wide.Parse(list[at]); e == api.OK {
		other = wide.Digits(m.Number(math.MaxUint64))
	}
	return append(append(out, other), list[at+1:]...)
}

// The first token that can't stand where it does is told, as the grammar has it.
func TestParseOfChanged(t *testing.T) {
	m := &sample.Maker{Seed: 9}
	met := map[api.Errno]int{}
	for range 4000 {
		s := m.Spec(m.UpTo(4))
		if len(s.Nodes) > 40 {
			continue
		}
		w := written(m, s)
		w.words = changed(m, w.words)
		text := w.joined()
		list, f := lex.Scan(text)
		if f.Code != api.OK {
			t.Fatalf("%s: %v", text, f)
		}
		wrong := formed(list)
		s, f = parse.Parse(text)
		met[f.Code]++
		switch {
		case f.Code == api.OK && wrong < 0:
			read(t, text)
		case f.Code == api.ErrForm && wrong >= 0 && f.At == list[wrong].At:
		case f.Code == api.ErrRange && (wrong < 0 || f.At < list[wrong].At): // a range, a 0 times, or what is left by 0
		default:
			t.Fatalf("%s: %v, want the token %d: %v", text, f, wrong, list[max(wrong, 0)])
		}
		if f.Code != api.OK && !reflect.DeepEqual(s, api.Spec{}) {
			t.Fatalf("%s: %+v beside %v", text, s, f)
		}
	}
	if met[api.OK] < 50 || met[api.ErrForm] < 1000 || met[api.ErrRange] < 10 {
		t.Errorf("met: %v", met)
	}
}
