package show_test

import (
	"math"
	"reflect"
	"slices"
	"strconv"
	"strings"
	"testing"

	"guipure/api"
	"guipure/lex"
	"guipure/parse"
	"guipure/sample"
	"guipure/show"
	"guipure/spec"
)

const most = math.MaxUint64

var (
	u8    = api.Node{Kind: api.Fixed, Width: 1, Max: 255}
	empty = api.Node{Kind: api.Empty}
)

// texts: types, behind their parts, as they stand in a text.
func texts() map[string][]api.Node {
	leaf := func(n api.Node) []api.Node { return []api.Node{n} }
	blob := func(x api.Expr) []api.Node { return leaf(api.Node{Kind: api.Blob, Expr: x}) }
	return map[string][]api.Node{
		"u8":                       leaf(u8),
		"u8 0..0":                  leaf(api.Node{Kind: api.Fixed, Width: 1}),
		"u16be":                    leaf(api.Node{Kind: api.Fixed, Width: 2, Max: 65535}),
		"u16le":                    leaf(api.Node{Kind: api.Fixed, Width: 2, Little: true, Max: 65535}),
		"u56le 3..9":               leaf(api.Node{Kind: api.Fixed, Width: 7, Little: true, Min: 3, Max: 9}),
		"varint":                   leaf(api.Node{Kind: api.Varint, Max: most}),
		"varint 0..0":              leaf(api.Node{Kind: api.Varint}),
		"zigzag lenient 1..2":      leaf(api.Node{Kind: api.Varint, Zig: true, Lenient: true, Min: 1, Max: 2}),
		`/ a+(\x00|")~/`:           leaf(api.Node{Kind: api.Token, Text: ` a+(\x00|")~`}),
		"/\xff\n/":                 leaf(api.Node{Kind: api.Token, Text: "\xff\n"}), // whatever it is
		"bytes[0]":                 blob(api.Expr{}),
		"bytes[2*n+3]":             blob(api.Expr{Reg: "n", Mul: 2, Add: 3}),
		"empty":                    leaf(empty),
		"other":                    leaf(api.Node{Kind: api.Use, Text: "other"}),
		"not a name;":              leaf(api.Node{Kind: api.Use, Text: "not a name;"}),
		"many u8":                  {u8, {Kind: api.Many, Kids: []int{0}}},
		"times[3] empty":           {empty, {Kind: api.Times, Expr: api.Expr{Add: 3}, Kids: []int{0}}},
		"times[n] u8":              {u8, {Kind: api.Times, Expr: api.Expr{Reg: "n", Mul: 1}, Kids: []int{0}}},
		"within[2*n+1] many empty": {empty, {Kind: api.Many, Kids: []int{0}}, {Kind: api.Within, Expr: api.Expr{Reg: "n", Mul: 2, Add: 1}, Kids: []int{1}}},
		"oneof { u8 }":             {u8, {Kind: api.Choice, Kids: []int{0}}},
		"oneof { u8 | empty | a }": {empty, u8, {Kind: api.Use, Text: "a"}, {Kind: api.Choice, Kids: []int{1, 0, 2}}},
		"chain { u8 }":             {u8, {Kind: api.Chain, Kids: []int{0}, Last: []bool{false}}},
		"chain { last u8 | empty | last many u8 }": {u8, empty, u8, {Kind: api.Many, Kids: []int{2}},
			{Kind: api.Chain, Kids: []int{0, 1, 3}, Last: []bool{true, false, true}}},
		"{ a: u8; }": {u8, {Kind: api.Record, Fields: []api.Field{{Name: "a"}}}},
		"{ n: u8 = size(d); d: bytes[n]; }": {u8, {Kind: api.Blob, Expr: api.Expr{Reg: "n", Mul: 1}},
			{Kind: api.Record, Fields: []api.Field{{Name: "n", Derive: api.SizeOf, Of: "d"}, {Name: "d", Type: 1}}}},
		"{ k: u8 1..2 = count(q); : { a: empty; }; a: empty = crc(b..c); }": {
			{Kind: api.Fixed, Width: 1, Min: 1, Max: 2}, empty, {Kind: api.Record, Fields: []api.Field{{Name: "a", Type: 1}}}, empty,
			{Kind: api.Record, Fields: []api.Field{{Name: "k", Derive: api.CountOf, Of: "q"}, {Name: "", Type: 2}, {Name: "a", Type: 3, Derive: api.SumOf, Of: "b", To: "c"}}}},
		"switch n { 0: u8; }": {u8, {Kind: api.Switch, Reg: "n", Cases: []api.Case{{}}, Else: -1}},
		"switch k % 8 { 5: empty; 18446744073709551615: u8; else: many empty; }": {empty, u8, empty, {Kind: api.Many, Kids: []int{2}},
			{Kind: api.Switch, Reg: "k", Mod: 8, Cases: []api.Case{{Value: 5}, {Value: most, Type: 1}}, Else: 3}},
		"switch n % 1 { 2: empty; else: u8; }": {u8, empty, {Kind: api.Switch, Reg: "n", Mod: 1, Cases: []api.Case{{Value: 2, Type: 1}}}}, // its Else is the type 0
	}
}

// named: types, some of which have names.
func named(nodes []api.Node, defs ...api.Def) api.Spec { return api.Spec{Nodes: nodes, Defs: defs} }

// P13.1

func TestKindAndText(t *testing.T) {
	for want, nodes := range texts() {
		root := len(nodes) - 1
		s := named(nodes, api.Def{Name: "main", Type: root})
		if e := spec.Check(s); e != api.OK {
			t.Fatalf("%s: layer 11's %v", want, e)
		}
		if got := show.Kind(s, root); got != want {
			t.Errorf("Kind: %q, want %q", got, want)
		}
		if got := show.Text(s); got != "main = "+want+";\n" {
			t.Errorf("Text: %q, want that of %q", got, want)
		}
	}
}

func TestTextOfNames(t *testing.T) {
	s := named([]api.Node{u8, empty, {Kind: api.Many, Kids: []int{0}}, {Kind: api.Use, Text: "b"}},
		api.Def{Name: "b", Type: 2}, api.Def{Name: "a", Type: 1}, api.Def{Name: "b", Type: 3})
	if got := show.Text(s); got != "b = many u8;\na = empty;\nb = b;\n" { // in their order, whatever their types' numbers
		t.Errorf("Text: %q", got)
	}
	for at, want := range []string{"u8", "empty", "many u8", "b"} {
		if got := show.Kind(s, at); got != want {
			t.Errorf("Kind of %d: %q", at, got)
		}
	}
	for _, at := range []int{-1, 4, math.MinInt, math.MaxInt} {
		if got := show.Kind(s, at); got != "" {
			t.Errorf("Kind of %d: %q", at, got)
		}
	}
	strange := named([]api.Node{empty, u8}, api.Def{Name: "", Type: 1}, api.Def{Name: "many; \xff", Type: 0})
	if got := show.Text(strange); got != " = u8;\nmany; \xff = empty;\n" { // whether they can be, layer 14 looks at
		t.Errorf("Text: %q", got)
	}
}

func TestEmptyOfWrongOnes(t *testing.T) {
	list := append(sample.Wrongs(),
		named([]api.Node{empty}),
		named([]api.Node{empty, empty}, api.Def{Name: "main", Type: 1}),
		named([]api.Node{empty}, api.Def{Name: "main", Type: 0}, api.Def{Name: "a", Type: 0}),
		named([]api.Node{{Kind: api.Chain, Kids: []int{0}}}, api.Def{Name: "main"}),
	)
	wrong := 0
	for _, s := range list {
		kept := spec.Clone(s)
		may := spec.Check(s) == api.OK
		if got := show.Text(s); (got != "") != may {
			t.Errorf("Text of %+v: %q", s, got)
		}
		for at := -2; at <= len(s.Nodes); at++ {
			if got := show.Kind(s, at); (got != "") != (may && 0 <= at && at < len(s.Nodes)) {
				t.Errorf("Kind of %d of %+v: %q", at, s, got)
			}
		}
		if !may {
			wrong++
		}
		if !reflect.DeepEqual(s, kept) {
			t.Errorf("what was handed in was changed: %+v", s)
		}
	}
	if wrong < 100 {
		t.Errorf("only %d were wrong", wrong)
	}
}

func TestTextOfMany(t *testing.T) {
	if got := show.Text(sample.Nested(spec.MaxNodes)); got != "main = "+strings.Repeat("many ", spec.MaxNodes-1)+"empty;\n" {
		t.Errorf("Text of many, each in the next one: %d bytes", len(got))
	}
	nodes := slices.Repeat([]api.Node{u8}, spec.MaxParts+1)
	nodes[spec.MaxParts] = api.Node{Kind: api.Choice}
	for at := range spec.MaxParts {
		nodes[spec.MaxParts].Kids = append(nodes[spec.MaxParts].Kids, at)
	}
	if got, want := show.Kind(named(nodes, api.Def{Type: spec.MaxParts}), spec.MaxParts), "oneof {"+strings.Repeat(" u8 |", 63)+" u8 }"; got != want {
		t.Errorf("Kind of many parts: %q", got)
	}
}

// What is written is read as it was, and all types of it, too, whatever their numbers.
func TestReadAgain(t *testing.T) {
	m := &sample.Maker{Seed: 13}
	for range 600 {
		first := m.Spec(m.UpTo(5))
		if len(first.Nodes) > 300 {
			continue
		}
		s := m.Shuffled(first)
		text := show.Text(s)
		if got, f := parse.Parse(text); f != (api.Fault{}) || !spec.Same(got, s) || !reflect.DeepEqual(got, first) {
			t.Fatalf("%s: %v, %+v, want %+v", text, f, got, s)
		}
		if got := show.Text(first); got != text {
			t.Fatalf("in another order: %q, want %q", got, text)
		}
		at := m.UpTo(len(s.Nodes))
		kind := show.Kind(s, at)
		if got, f := parse.Parse("main = " + kind + ";"); f != (api.Fault{}) || !spec.Same(got, sample.Part(s, at)) {
			t.Fatalf("%d: %s: %v, %+v, want that of %+v", at, kind, f, got, s)
		}
		if !strings.Contains(text, kind) {
			t.Fatalf("%s hasn't %s", text, kind)
		}
	}
}

// The text is the shortest one that can be, but for the blanks.
func TestNothingNeedsnt(t *testing.T) {
	for text, want := range map[string]string{
		"main = { n: u8 = size(d); d: bytes[n]; };":                           "main = { n: u8 = size(d); d: bytes[n]; };\n",
		"a=u8 0..255;# so\nmain\n=\tmany a ;":                                 "a = u8;\nmain = many a;\n",
		"main=zigzag lenient 0..18446744073709551615;":                        "main = zigzag lenient;\n",
		"main=bytes[1*n+0];":                                                  "main = bytes[n];\n",
		"main=switch n%3{0:u16le 1..65535;else:chain{last/ x/|a}; };a=empty;": "main = switch n % 3 { 0: u16le 1..65535; else: chain { last / x/ | a }; };\na = empty;\n",
	} {
		s, f := parse.Parse(text)
		if got := show.Text(s); f.Code != api.OK || got != want {
			t.Errorf("%s: %v, %q", text, f, got)
		}
		list, _ := lex.Scan(want)
		again, _ := lex.Scan(show.Text(s))
		if !lex.Same(list, again) {
			t.Errorf("%s: other tokens", text)
		}
	}
}

// P13.2

func TestNumber(t *testing.T) {
	for width := 1; width <= 8; width++ {
		big, little := "u"+strconv.Itoa(8*width)+"be", "u"+strconv.Itoa(8*width)+"le"
		if width == 1 {
			big, little = "u8", "u8" // whichever byte is first
		}
		n := api.Node{Kind: api.Fixed, Width: width, Min: 3, Max: 7, Zig: true, Lenient: true, Text: "x"}
		if got := show.Number(n); got != big {
			t.Errorf("Number of the width %d: %q", width, got)
		}
		n.Little = true
		if got := show.Number(n); got != little {
			t.Errorf("Number of the width %d: %q", width, got)
		}
		if w, le, ok := parse.Fixed(big); w != width || le || !ok {
			t.Errorf("%s isn't read", big)
		}
	}
	for want, n := range map[string]api.Node{
		"varint":         {Kind: api.Varint, Width: 2, Little: true, Min: 1, Max: 2},
		"zigzag":         {Kind: api.Varint, Zig: true},
		"varint lenient": {Kind: api.Varint, Lenient: true},
		"zigzag lenient": {Kind: api.Varint, Zig: true, Lenient: true},
		"u0be":           {Kind: api.Fixed},
		"u0le":           {Kind: api.Fixed, Little: true},
		"u72be":          {Kind: api.Fixed, Width: 9},
		"u-8le":          {Kind: api.Fixed, Width: -1, Little: true},
	} {
		if got := show.Number(n); got != want {
			t.Errorf("Number of %+v: %q", n, got)
		}
	}
}

func TestRange(t *testing.T) {
	for width := 1; width <= 8; width++ {
		all := spec.Most(api.Node{Kind: api.Fixed, Width: width})
		digits := strconv.FormatUint(all, 10)
		for want, n := range map[string]api.Node{
			"":                             {Max: all},
			" 1.." + digits:                {Min: 1, Max: all},
			" 0.." + digits[:1]:            {Max: all / pow(len(digits)-1)},
			" " + digits + ".." + digits:   {Min: all, Max: all},
			" 0..0":                        {},
			" 5..3":                        {Min: 5, Max: 3},
			" 7.." + digits[:1] + "000000": {Min: 7, Max: all / pow(len(digits)-1) * 1000000},
		} {
			n.Kind, n.Width, n.Little = api.Fixed, width, true
			if got := show.Range(n); got != want {
				t.Errorf("Range of %+v: %q, want %q", n, got, want)
			}
		}
	}
	for want, n := range map[string]api.Node{
		"":                           {Kind: api.Varint, Max: most, Zig: true},
		" 0..18446744073709551614":   {Kind: api.Varint, Max: most - 1},
		" 0..255":                    {Kind: api.Varint, Max: 255, Width: 1},
		" 0..0":                      {Kind: api.Fixed, Width: 8, Zig: true},
		" 10..20":                    {Kind: api.Varint, Min: 10, Max: 20},
		" 0..65535":                  {Kind: api.Fixed, Width: 1, Max: 65535},
		" 255..18446744073709551615": {Kind: api.Varint, Min: 255, Max: most},
	} {
		if got := show.Range(n); got != want {
			t.Errorf("Range of %+v: %q, want %q", n, got, want)
		}
	}
}

// pow: ten so many times with itself.
func pow(many int) uint64 {
	out := uint64(1)
	for range many {
		out *= 10
	}
	return out
}

func TestExpr(t *testing.T) {
	for want, x := range map[string]api.Expr{
		"[0]":                        {},
		"[7]":                        {Add: 7},
		"[9]":                        {Add: 9, Mul: 3}, // without a name just that
		"[18446744073709551615]":     {Add: most},
		"[n]":                        {Reg: "n", Mul: 1},
		"[n+10]":                     {Reg: "n", Mul: 1, Add: 10},
		"[2*n]":                      {Reg: "n", Mul: 2},
		"[2*n+1]":                    {Reg: "n", Mul: 2, Add: 1},
		"[0*n]":                      {Reg: "n"},
		"[0*n+1]":                    {Reg: "n", Add: 1},
		"[18446744073709551615*_+1]": {Reg: "_", Mul: most, Add: 1},
		"[10*] \xff]":                {Reg: "] \xff", Mul: 10},
	} {
		if got := show.Expr(x); got != want {
			t.Errorf("Expr of %+v: %q, want %q", x, got, want)
		}
	}
}

func TestDerive(t *testing.T) {
	for want, list := range map[string][]api.Field{
		"":             {{}, {Name: "a", Type: 5}, {Of: "a", To: "b"}, {Derive: -1, Of: "a"}, {Derive: 4, Of: "a", To: "b"}, {Derive: math.MaxInt}, {Derive: math.MinInt}},
		" = size(a)":   {{Derive: api.SizeOf, Of: "a"}, {Name: "n", Derive: api.SizeOf, Of: "a", To: "b"}},
		" = count(b)":  {{Derive: api.CountOf, Of: "b"}, {Name: "n", Derive: api.CountOf, Of: "b", To: "c"}},
		" = crc(a..b)": {{Derive: api.SumOf, Of: "a", To: "b"}, {Name: "n", Type: 9, Derive: api.SumOf, Of: "a", To: "b"}},
		" = size()":    {{Derive: api.SizeOf}},
		" = crc(..)":   {{Derive: api.SumOf}},
	} {
		for _, f := range list {
			if got := show.Derive(f); got != want {
				t.Errorf("Derive of %+v: %q, want %q", f, got, want)
			}
		}
	}
}

// P1: they end at all numbers.
func TestRawOnes(t *testing.T) {
	for _, edge := range []int{math.MinInt, -9, -1, 0, 9, 14, 1 << 61, math.MaxInt} {
		for kind := -1; kind < 15; kind++ {
			n := api.Node{Kind: kind, Width: edge, Else: edge, Kids: []int{edge}}
			show.Number(n)
			show.Range(n)
			n.Kind = edge
			show.Number(n)
			show.Range(n)
			show.Kind(named([]api.Node{n}, api.Def{Type: edge}), edge)
			show.Text(named([]api.Node{n, n}, api.Def{Type: edge}))
		}
	}
}

func TestExample(t *testing.T) {
	const text = "main = { n: u8 = size(d); d: bytes[n]; };"
	s, f := parse.Parse(text)
	if got := show.Text(s); f.Code != api.OK || got != text+"\n" {
		t.Errorf("%v, %q", f, got)
	}
}
