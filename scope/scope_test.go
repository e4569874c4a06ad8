package scope_test

import (
	"math"
	"reflect"
	"slices"
	"strconv"
	"strings"
	"testing"

	"guipure/api"
	"guipure/parse"
	"guipure/sample"
	"guipure/scope"
	"guipure/show"
	"guipure/spec"
)

// read: the specification of a text.
func read(t *testing.T, text string) api.Spec {
	t.Helper()
	s, f := parse.Parse(text)
	if f.Code != api.OK {
		t.Fatalf("Parse of %.200q: %v", text, f)
	}
	return s
}

// at: the only type that stands so in a text.
func at(t *testing.T, s api.Spec, text string) int {
	t.Helper()
	found := -1
	for i := range s.Nodes {
		if show.Kind(s, i) == text && found >= 0 {
			t.Fatalf("%q stands there twice", text)
		}
		if show.Kind(s, i) == text {
			found = i
		}
	}
	if found < 0 {
		t.Fatalf("%q doesn't stand there", text)
	}
	return found
}

// P14.1

func TestConstant(t *testing.T) {
	if scope.MaxNest != 200 {
		t.Error("the limit")
	}
}

func TestRightNames(t *testing.T) {
	for _, text := range []string{
		"a = u8; main = many a;",
		"main = empty;",
		"a = u8; b = { a: a; b: a; }; c = { a: b; b: a; c: b; };",
		"a = { x: u8; }; main = { x: u8; y: a; };", // those within a name's type are its own
		"a = { x: u8; y: u8; }; b = { x: u8; y: u8; }; main = oneof { a | b };",
		"main = { a: { a: u8; }; };", // what it is in isn't ahead of it
		"main = { a: { a: { a: u8; b: u8; }; b: u8; }; b: u8; };",
		"main = { a: { x: u8; }; b: { x: u8; }; x: u8; };", // those within one ahead aren't around it
		"main = { a: { b: u8; }; b: u8; };",
		"main = { a: many { b: u8; }; b: times[a] { c: u8; }; c: u8; };",
		"main = oneof { { a: u8; } | { a: u8; } };",
		"main = switch n { 0: { a: u8; }; 1: { a: u8; }; else: { a: u8; }; };", // whether there is an n, layer 15 looks at
		"main = chain { { a: u8; b: u8; } | last { b: u8; a: u8; } };",
		"main = { a: u8 = crc(x..y); b: u8 = size(c); };",
		"u8be = u8; U8 = u8be; _ = U8; abcdefghijklmnopqrstuvwx = _; main = { u8be: _; U8: abcdefghijklmnopqrstuvwx; main: u8; };",
	} {
		s := read(t, text)
		if f := scope.Check(s); f != (api.Fault{}) {
			t.Errorf("%s: %v", text, f)
		}
		if f := check(s); f != (api.Fault{}) {
			t.Errorf("%s: the tests' %v", text, f)
		}
	}
}

func TestWrongNames(t *testing.T) {
	for text, want := range map[string]struct {
		code api.Errno
		at   string
	}{
		"main = a; a = u8;": {api.ErrUse, "a"},
		"main = main;":      {api.ErrUse, "main"},
		"a = u8; main = { b: u16be; c: many main; };":                     {api.ErrUse, "main"},
		"a = b; b = c; main = d;":                                         {api.ErrUse, "b"},
		"main = { x: u8; y: x; };":                                        {api.ErrUse, "x"}, // a field is no type
		"a = u8; main = A;":                                               {api.ErrUse, "A"},
		"main = oneof { u8 | many oneof { u16be | x } };":                 {api.ErrUse, "x"},
		"main = switch n { 0: u8; 1: x; else: y; };":                      {api.ErrUse, "x"},
		"main = switch n { 0: u8; 1: u8; else: y; };":                     {api.ErrUse, "y"},
		"main = chain { u8 | last x };":                                   {api.ErrUse, "x"},
		"main = within[3] times[4] many x;":                               {api.ErrUse, "x"},
		"a = u8; a = u16be; main = u8;":                                   {api.ErrTwice, "u16be"},
		"a = u8; b = u8; main = u8; b = many x;":                          {api.ErrTwice, "many x"}, // ahead of what is within
		"main = u8; main = u16be;":                                        {api.ErrTwice, "u16be"},
		"a = u8; a = u16be; main = x;":                                    {api.ErrTwice, "u16be"},
		"a = x; a = u8; main = u8;":                                       {api.ErrUse, "x"},
		"main = { a: u8; a: u8; };":                                       {api.ErrTwice, "{ a: u8; a: u8; }"},
		"main = { a: u8; b: u8; a: x; };":                                 {api.ErrTwice, "{ a: u8; b: u8; a: x; }"},
		"main = { a: u8; b: x; a: u8; };":                                 {api.ErrUse, "x"}, // field by field
		"main = { a: u8; b: { c: u8; a: u8; }; };":                        {api.ErrTwice, "{ c: u8; a: u8; }"},
		"main = { a: u8; b: { b: { c: u8; a: u8; }; }; };":                {api.ErrTwice, "{ c: u8; a: u8; }"},
		"main = { a: u8; b: { c: u8; d: { c: u8; }; }; };":                {api.ErrTwice, "{ c: u8; }"},
		"main = { a: { x: u8; }; b: { a: u8; }; };":                       {api.ErrTwice, "{ a: u8; }"},
		"main = { a: u8; b: many oneof { u8 | within[2] { a: u8; } }; };": {api.ErrTwice, "{ a: u8; }"},
		"main = { a: u8; b: switch a { 0: u8; else: { a: u8; }; }; };":    {api.ErrTwice, "{ a: u8; }"},
		"main = { a: u8; b: chain { u8 | last { a: u8; } }; };":           {api.ErrTwice, "{ a: u8; }"},
		"main = { a: u8; b: times[a] { a: u8; }; };":                      {api.ErrTwice, "{ a: u8; }"},
		"main = { a: { b: u8; c: u8; }; b: { c: u8; b: u8; a: u8; }; };":  {api.ErrTwice, "{ c: u8; b: u8; a: u8; }"},
		"b = { a: u8; }; main = { a: u8; x: b; a: u8; };":                 {api.ErrTwice, "{ a: u8; x: b; a: u8; }"},
	} {
		s := read(t, text)
		place := api.Fault{Code: want.code, At: at(t, s, want.at)}
		if f := scope.Check(s); f != place {
			t.Errorf("%s: %v, want %v", text, f, place)
		}
		if f := check(s); f != place {
			t.Errorf("%s: the tests' %v, want %v", text, f, place)
		}
	}
}

// wrongs: what can't be a name.
func wrongs() []string {
	return []string{
		"", " ", " a", "a ", "a\n", "\xff", "\x00", "a\x00", "5", "5a", "a-b", "a.b", "a;", "a b", "a#", "#", "é", "a/b/", "=", "{", "..",
		"a = u8; b", "a = empty; #", "a = empty;\n", "a #\n", "#\na", "\ta", "abcdefghijklmnopqrstuvwxy", strings.Repeat("a", 70000),
		"u8", "u16be", "u24le", "u64be", "varint", "zigzag", "lenient", "bytes", "times", "many", "within", "switch",
		"else", "oneof", "chain", "last", "empty", "size", "count", "crc",
	}
}

func TestWhatCanBeNoName(t *testing.T) {
	empty := api.Node{Kind: api.Empty}
	for _, name := range wrongs() {
		s := api.Spec{Nodes: []api.Node{empty, empty}, Defs: []api.Def{{Name: "a", Type: 1}, {Name: name, Type: 0}}}
		if f := scope.Check(s); f != (api.Fault{Code: api.ErrForm, At: 0}) {
			t.Errorf("the name %.40q: %v", name, f)
		}
		s.Defs[0], s.Defs[1] = s.Defs[1], s.Defs[0]
		s.Defs[0].Type, s.Defs[1].Type = 1, 0
		if f := scope.Check(s); f != (api.Fault{Code: api.ErrForm, At: 1}) {
			t.Errorf("the name %.40q: %v", name, f)
		}
		for which := range 2 {
			fields := []api.Field{{Name: "a", Type: 0}, {Name: "b", Type: 1}}
			fields[which].Name = name
			s := api.Spec{
				Nodes: []api.Node{empty, empty, {Kind: api.Record, Fields: fields}, {Kind: api.Many, Kids: []int{2}}},
				Defs:  []api.Def{{Name: "main", Type: 3}},
			}
			if f := scope.Check(s); f != (api.Fault{Code: api.ErrForm, At: 2}) {
				t.Errorf("the field %.40q: %v", name, f)
			}
			s.Nodes[0] = api.Node{Kind: api.Use, Text: name}
			want := api.Fault{Code: api.ErrForm, At: 2}
			if which == 1 && name != "" {
				want = api.Fault{Code: api.ErrUse} // of the field ahead
			}
			if name == "" {
				want = api.Fault{Code: api.ErrForm} // layer 11's
			}
			if f := scope.Check(s); f != want {
				t.Errorf("the field %.40q, and a Use of it: %v, want %v", name, f, want)
			}
		}
	}
}

// Names that can't be, and are there twice: the form comes first.
func TestFormComesFirst(t *testing.T) {
	empty := api.Node{Kind: api.Empty}
	s := api.Spec{Nodes: []api.Node{empty, empty, empty}, Defs: []api.Def{{Name: "a", Type: 2}, {Name: "a", Type: 1}, {Name: "", Type: 0}}}
	if f := scope.Check(s); f != (api.Fault{Code: api.ErrTwice, At: 1}) { // name by name
		t.Errorf("%v", f)
	}
	s.Defs[0].Name, s.Defs[1].Name = "", ""
	if f := scope.Check(s); f != (api.Fault{Code: api.ErrForm, At: 2}) {
		t.Errorf("%v", f)
	}
	use := api.Node{Kind: api.Use, Text: "x"}
	s = api.Spec{Nodes: []api.Node{use, empty}, Defs: []api.Def{{Name: "u8", Type: 0}, {Name: "a", Type: 1}}}
	if f := scope.Check(s); f != (api.Fault{Code: api.ErrForm, At: 0}) { // ahead of its type
		t.Errorf("%v", f)
	}
	s = api.Spec{Nodes: []api.Node{use, empty}, Defs: []api.Def{{Name: "b", Type: 0}, {Name: "u8", Type: 1}}}
	if f := scope.Check(s); f != (api.Fault{Code: api.ErrUse, At: 0}) { // and behind those ahead
		t.Errorf("%v", f)
	}
}

// deepened: a type around another one so often.
func deepened(many int, text string) api.Spec {
	s, _ := parse.Parse("main = " + text + ";")
	for range many {
		s.Nodes = append(s.Nodes, api.Node{Kind: api.Many, Kids: []int{len(s.Nodes) - 1}})
	}
	s.Defs[0].Type = len(s.Nodes) - 1
	return s
}

// put: a name behind those of a specification, and its type.
func put(s api.Spec, name, text string) api.Spec {
	more, _ := parse.Parse(name + " = " + text + ";")
	begin := len(s.Nodes)
	for _, n := range more.Nodes {
		for i := range n.Kids {
			n.Kids[i] += begin
		}
		for i := range n.Fields {
			n.Fields[i].Type += begin
		}
		s.Nodes = append(s.Nodes, n)
	}
	s.Defs = append(s.Defs, api.Def{Name: name, Type: len(s.Nodes) - 1})
	return s
}

func TestTooDeep(t *testing.T) {
	for text, deep := range map[string]int{
		"empty": 1, "u8": 1, "bytes[3]": 1, "/a/": 1, "many u8": 2, "{ a: u8; b: many u8; c: u8; }": 3, "chain { u8 | u8 }": 3,
		"chain { last many chain { u8 } }": 6, "switch n { 0: u8; else: many u8; }": 3, "within[5] times[3] oneof { u8 | varint }": 4,
	} {
		for many := 195; many < 205; many++ {
			s := deepened(many, text)
			want := api.Fault{}
			if many+deep > scope.MaxNest {
				want = api.Fault{Code: api.ErrDeep, At: len(s.Nodes) - 1}
			}
			if f := scope.Check(s); f != want {
				t.Errorf("%d around %s: %v, want %v", many, text, f, want)
			}
			if got := scope.Deep(s); got != many+deep {
				t.Errorf("%d around %s: Deep is %d", many, text, got)
			}
			wrapped := put(s, "a", "{ b: main; c: many main; }")
			want = api.Fault{}
			if many+deep+2 > scope.MaxNest {
				want = api.Fault{Code: api.ErrDeep, At: len(wrapped.Nodes) - 1}
			}
			if f := scope.Check(wrapped); f != want {
				t.Errorf("%d around %s, used: %v, want %v", many, text, f, want)
			}
			if f := scope.Check(put(s, "a", "u8")); f != (api.Fault{}) { // the whole alone
				t.Errorf("%d around %s, not used: %v", many, text, f)
			}
		}
	}
	s := put(sample.Nested(2000), "a", "{ b: main; b: main; }")
	if f := scope.Check(s); f != (api.Fault{Code: api.ErrTwice, At: len(s.Nodes) - 1}) { // what is wrong with names comes first
		t.Errorf("%v", f)
	}
	if f := scope.Check(sample.Nested(spec.MaxNodes)); f != (api.Fault{Code: api.ErrDeep, At: spec.MaxNodes - 1}) {
		t.Errorf("%v", f)
	}
	if f := scope.Check(sample.Nested(spec.MaxNodes + 1)); f != (api.Fault{Code: api.ErrLong}) {
		t.Errorf("%v", f)
	}
}

// Records in one another, as many as can be: names are told apart however many there are.
func TestManyFields(t *testing.T) {
	var s api.Spec
	for i := range spec.MaxNodes / 2 {
		n := api.Node{Kind: api.Empty}
		s.Nodes = append(s.Nodes, n)
		if i > 0 { // the name of each is one that no other has
			s.Nodes = append(s.Nodes, api.Node{Kind: api.Record, Fields: []api.Field{{Name: "f" + strconv.Itoa(i), Type: len(s.Nodes) - 1}, {Name: "next", Type: len(s.Nodes) - 2}}})
		}
	}
	root := len(s.Nodes) - 1
	s.Defs = []api.Def{{Name: "main", Type: root}}
	if f := scope.Check(s); f != (api.Fault{Code: api.ErrDeep, At: root}) {
		t.Errorf("%v", f)
	}
	inner := slices.IndexFunc(s.Nodes, func(n api.Node) bool { return n.Kind == api.Record })
	s.Nodes[inner].Fields[0].Name = s.Nodes[root].Fields[0].Name
	if f := scope.Check(s); f != (api.Fault{Code: api.ErrTwice, At: inner}) {
		t.Errorf("%v", f)
	}
}

// spoilt: a name of a specification is another one, or one that can't be.
func spoilt(m *sample.Maker, s api.Spec) api.Spec {
	s = spec.Clone(s)
	name := m.Name()
	if list := wrongs(); m.UpTo(3) == 0 {
		name = list[m.UpTo(len(list))]
	}
	places := []*string{&s.Defs[m.UpTo(len(s.Defs))].Name}
	for at := range s.Nodes {
		n := &s.Nodes[at]
		for i := range n.Fields {
			places = append(places, &n.Fields[i].Name)
		}
		if n.Kind == api.Use && name != "" { // else it is layer 11's
			places = append(places, &n.Text)
		}
	}
	if m.UpTo(9) == 0 {
		slices.Reverse(s.Defs)
	}
	*places[m.UpTo(len(places))] = name
	return s
}

func TestCheckOfSamples(t *testing.T) {
	m := &sample.Maker{Seed: 14}
	met := map[api.Errno]int{}
	for range 6000 {
		s := m.Shuffled(m.Scoped(1 + m.UpTo(4)))
		if len(s.Nodes) > 150 {
			continue
		}
		if f := scope.Check(s); f != (api.Fault{}) {
			t.Fatalf("%s: %v", show.Text(s), f)
		}
		for range m.UpTo(4) {
			s = spoilt(m, s)
		}
		kept := spec.Clone(s)
		f, want := scope.Check(s), check(s)
		if f != want {
			t.Fatalf("%s (%+v): %v, want %v", show.Text(s), s, f, want)
		}
		if !reflect.DeepEqual(s, kept) {
			t.Fatalf("what was handed in was changed: %+v", s)
		}
		met[f.Code]++
	}
	for _, code := range []api.Errno{api.OK, api.ErrForm, api.ErrTwice, api.ErrUse} {
		if met[code] < 200 {
			t.Errorf("met: %v", met)
		}
	}
}

// P14.2

func TestTarget(t *testing.T) {
	s := read(t, "a = u8; b = a; c = b; d = many c; main = { x: c; y: d; z: a; w: u16be; };")
	a, d := spec.Def(s, "a"), spec.Def(s, "d")
	for _, w := range []struct{ at, want int }{
		{a, a}, {spec.Def(s, "b"), a}, {spec.Def(s, "c"), a}, {d, d}, {s.Nodes[d].Kids[0], a}, {spec.Root(s), spec.Root(s)},
		{s.Nodes[spec.Root(s)].Fields[0].Type, a}, {s.Nodes[spec.Root(s)].Fields[1].Type, d}, {s.Nodes[spec.Root(s)].Fields[2].Type, a},
		{at(t, s, "u16be"), at(t, s, "u16be")}, {-1, -1},
	} {
		if got := scope.Target(s, w.at); got != w.want {
			t.Errorf("Target of %d: %d, want %d", w.at, got, w.want)
		}
	}
	for _, at := range []int{-2, math.MinInt, len(s.Nodes), math.MaxInt} {
		if got := scope.Target(s, at); got != at { // no Use
			t.Errorf("Target of %d: %d", at, got)
		}
	}
}

// Each name a Use of the one ahead of it: as many as there may be.
func TestTargetOfMany(t *testing.T) {
	s := api.Spec{Nodes: []api.Node{{Kind: api.Varint}}, Defs: []api.Def{{Name: "n0"}}}
	for i := 1; i < spec.MaxDefs; i++ {
		s.Nodes = append(s.Nodes, api.Node{Kind: api.Use, Text: "n" + strconv.Itoa(i-1)})
		s.Defs = append(s.Defs, api.Def{Name: "n" + strconv.Itoa(i), Type: i})
	}
	if f := scope.Check(s); f != (api.Fault{}) {
		t.Fatal(f)
	}
	for at := range s.Nodes {
		if got := scope.Target(s, at); got != 0 {
			t.Errorf("Target of %d: %d", at, got)
		}
	}
	if got := scope.Deep(s); got != 1 {
		t.Errorf("Deep: %d", got)
	}
	if got := scope.Needed(s); len(got) != spec.MaxDefs || got[0] != "n0" || got[63] != "n63" {
		t.Errorf("Needed: %v", got)
	}
}

func TestDeep(t *testing.T) {
	for text, want := range map[string]int{
		"main = u8;":                        1,
		"a = many many many u8; main = u8;": 1, // the whole's
		"a = many many many u8; main = a;":  4,
		"a = many many many u8; b = many a; main = { x: u8; y: b; z: a; };":  6,
		"main = switch n { 0: u8; 1: many u8; else: u8; };":                  3,
		"main = switch n { 0: u8; 1: u8; else: many u8; };":                  3,
		"main = oneof { many many u8 | u8 };":                                4,
		"main = chain { u8 };":                                               3,
		"main = chain { u8 | last many u8 | empty };":                        4,
		"a = chain { last empty }; main = chain { a | last a };":             5,
		"main = { a: chain { u8 | empty }; b: many many u8; };":              4,
		"main = within[2] times[2] empty;":                                   3,
		"main = { a: u8; b: { c: { d: bytes[2]; }; e: u8; }; };":             4,
		"a = many u8; b = { x: a; }; c = { x: b; y: b; }; main = { x: c; };": 5,
	} {
		s := read(t, text)
		if got := scope.Deep(s); got != want {
			t.Errorf("Deep of %s: %d, want %d", text, got, want)
		}
	}
	m := &sample.Maker{Seed: 15}
	for range 500 {
		s := m.Shuffled(m.Scoped(m.UpTo(4)))
		if got, want := scope.Deep(s), depth(s, spec.Root(s)); got != want {
			t.Fatalf("Deep of %s: %d, want %d", show.Text(s), got, want)
		}
	}
}

// P14.3

func TestUsed(t *testing.T) {
	s := read(t, "a = u8; b = many a; c = { p: b; q: oneof { a | b | a }; r: u8; }; main = { x: c; y: switch x { 0: b; else: { z: a; }; }; w: c; };")
	for _, w := range []struct {
		at   int
		want []string
	}{
		{spec.Def(s, "a"), nil},
		{spec.Def(s, "b"), []string{"a"}},
		{s.Nodes[spec.Def(s, "b")].Kids[0], []string{"a"}},
		{spec.Def(s, "c"), []string{"b", "a"}}, // as they are met, each once
		{at(t, s, "oneof { a | b | a }"), []string{"a", "b"}},
		{spec.Root(s), []string{"c", "b", "a"}},
		{at(t, s, "{ z: a; }"), []string{"a"}},
		{at(t, s, "switch x { 0: b; else: { z: a; }; }"), []string{"b", "a"}},
		{-1, nil}, {len(s.Nodes), nil}, {math.MinInt, nil}, {math.MaxInt, nil},
	} {
		if got := scope.Used(s, w.at); !slices.Equal(got, w.want) {
			t.Errorf("Used of %d: %v, want %v", w.at, got, w.want)
		}
	}
	other := read(t, "a = u8; b = a; main = b;")
	if got := scope.Used(other, spec.Root(other)); !slices.Equal(got, []string{"b"}) { // not what these use
		t.Errorf("Used: %v", got)
	}
}

func TestNeeded(t *testing.T) {
	for text, want := range map[string]string{
		"main = u8;":         "main",
		"a = u8; main = u8;": "main",
		"a = u8; main = a;":  "a main",
		"a = u8; b = u8; main = { x: b; y: a; };":                            "a b main", // in the names' order
		"a = u8; b = a; c = u8; main = b;":                                   "a b main",
		"a = u8; b = a; main = u8;":                                          "main",
		"a = u8; b = a; c = many b; d = c; main = { x: d; y: d; };":          "a b c d main",
		"a = u8; b = a; c = b; d = a; main = d;":                             "a d main",
		"main = u8; a = main; b = u8;":                                       "b", // the whole is the last one
		"main = u8; a = u8; b = main;":                                       "main b",
		"a = u8; b = u8; c = a; d = b; main = switch n { 0: d; else: u8; };": "b d main",
	} {
		s := read(t, text)
		if got := strings.Join(scope.Needed(s), " "); got != want {
			t.Errorf("Needed of %s: %s, want %s", text, got, want)
		}
	}
	if got := scope.Needed(api.Spec{}); len(got) != 0 {
		t.Errorf("Needed of nothing: %v", got)
	}
}

// needed: a name's, and those that they use, from the whole on.
func needed(s api.Spec, name string, met map[string]int) {
	met[name]++
	spec.Each(s, spec.Def(s, name), func(at int) bool {
		if n := s.Nodes[at]; n.Kind == api.Use {
			needed(s, n.Text, met)
		}
		return true
	})
}

func TestNeededOfSamples(t *testing.T) {
	m := &sample.Maker{Seed: 16}
	less := 0
	for range 500 {
		s := m.Shuffled(m.Scoped(m.UpTo(4)))
		met := map[string]int{}
		needed(s, s.Defs[len(s.Defs)-1].Name, met)
		var want []string
		for _, d := range s.Defs {
			if met[d.Name] > 0 {
				want = append(want, d.Name)
			}
		}
		if got := scope.Needed(s); !slices.Equal(got, want) {
			t.Fatalf("Needed of %s: %v, want %v", show.Text(s), got, want)
		}
		if len(want) < len(s.Defs) {
			less++
		}
	}
	if less < 50 {
		t.Errorf("only %d have names that aren't needed", less)
	}
}

// P1, P2

func TestRawOnes(t *testing.T) {
	for _, s := range sample.Wrongs() {
		kept := spec.Clone(s)
		if f, e := scope.Check(s), spec.Check(s); e != api.OK && f != (api.Fault{Code: e}) { // layer 11's error, at 0
			t.Errorf("Check of %+v: %v, want %v", s, f, e)
		}
		scope.Deep(s)
		scope.Needed(s)
		for at := -3; at < 10; at++ {
			scope.Target(s, at)
			scope.Used(s, at)
		}
		scope.Used(s, spec.Root(s))
		if !reflect.DeepEqual(s, kept) {
			t.Errorf("what was handed in was changed: %+v", s)
		}
	}
}

// What is answered is new memory.
func TestAnswersAreTheirOwn(t *testing.T) {
	s := read(t, "a = u8; b = a; main = { x: a; y: b; };")
	used, need := scope.Used(s, spec.Root(s)), scope.Needed(s)
	for _, list := range [][]string{used, need} {
		for i := range list[:cap(list)] {
			list[:cap(list)][i] = "spoilt"
		}
	}
	if got := scope.Used(s, spec.Root(s)); !slices.Equal(got, []string{"a", "b"}) {
		t.Errorf("Used: %v", got)
	}
	if got := scope.Needed(s); !slices.Equal(got, []string{"a", "b", "main"}) {
		t.Errorf("Needed: %v", got)
	}
}

func TestExamples(t *testing.T) {
	if f := scope.Check(read(t, "a = u8; main = many a;")); f != (api.Fault{}) {
		t.Errorf("%v", f)
	}
	if f := scope.Check(read(t, "main = a; a = u8;")); f != (api.Fault{Code: api.ErrUse, At: 0}) {
		t.Errorf("%v", f)
	}
}
