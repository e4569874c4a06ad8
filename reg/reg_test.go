package reg_test

import (
	"maps"
	"math"
	"reflect"
	"slices"
	"strconv"
	"testing"

	"guipure/api"
	"guipure/parse"
	"guipure/reg"
	"guipure/sample"
	"guipure/scope"
	"guipure/show"
	"guipure/spec"
)

// read: the specification of a text.
func read(t *testing.T, text string) api.Spec {
	t.Helper()
	s, f := parse.Parse(text)
	if f.Code != api.OK {
		t.Fatalf("Parse of %.200q: %v", text, f)
	}
	return s
}

// at: the only type that stands so in a text.
func at(t *testing.T, s api.Spec, text string) int {
	t.Helper()
	found := -1
	for i := range s.Nodes {
		if show.Kind(s, i) != text {
			continue
		}
		if found >= 0 {
			t.Fatalf("%q stands there twice", text)
		}
		found = i
	}
	if found < 0 {
		t.Fatalf("%q doesn't stand there", text)
	}
	return found
}

// wantCheck tells if Check of a specification isn't that.
func wantCheck(t *testing.T, s api.Spec, want api.Fault) {
	t.Helper()
	if f := reg.Check(s); f != want {
		t.Errorf("%s: %v, want %v", show.Text(s), f, want)
	}
	if f := check(s); f != want {
		t.Errorf("%s: the tests' %v, want %v", show.Text(s), f, want)
	}
}

// P15.1

func TestRightNumbers(t *testing.T) {
	for _, text := range []string{
		"main = u8;",
		"main = bytes[3];",
		"main = { n: u8; d: bytes[n]; };",
		"main = { n: u8; d: bytes[2*n+1]; };", // whatever is reckoned, if nothing is derived
		"main = { n: zigzag lenient 3..4; d: times[3*n] u8; e: within[n+2] u8; f: switch n { 0: u8; }; g: switch n % 3 { 0: u8; else: bytes[n]; }; };",
		"main = { n: u8; r: { m: u8; d: bytes[n]; e: { f: times[m] bytes[n]; }; }; };", // in a Record around it
		"main = { n: u8; r: many oneof { times[n] u8 | chain { within[n] bytes[n] } }; };",
		"main = { a: { n: u8; d: bytes[n]; }; n: varint; d: bytes[n]; };",
		"a = { n: u8; d: bytes[n]; }; main = { n: u16be; d: many bytes[n]; e: a; };", // of each name its own
		"main = { n: u8 = size(d); d: bytes[n]; };",
		"main = { n: u64le 3..4 = size(d); d: bytes[n]; };",
		"main = { n: varint lenient = size(d); x: u8; d: bytes[n]; };", // not just behind it
		"main = { n: u8 = count(d); d: times[n] u8; };",
		"main = { n: u8 = count(d); d: times[n] bytes[n]; };", // of a Times it doesn't matter what goes by it within
		"main = { n: u8 = size(d); d: within[n] u8; };",
		"main = { n: u8 = size(d); d: bytes[n]; e: bytes[2*n]; f: times[n] u8; g: switch n { 0: u8; }; };", // others may go by it, too
		"main = { n: u8 = size(d); m: u8 = count(e); d: bytes[n]; e: times[m] u8; };",
		"main = { a: u8; s: u32be = crc(a..a); };",
		"main = { a: u8; b: many u8; c: empty; s: u32le = crc(b..c); r: u32be 0..4294967295 = crc(a..s); };",
		"main = { s: { a: u8; s0: u32be = crc(a..a); }; r: u32be = crc(s..s); };",
	} {
		wantCheck(t, read(t, text), api.Fault{})
	}
}

func TestNoNumber(t *testing.T) {
	for text, kind := range map[string]string{
		"main = bytes[n];":                                                        "bytes[n]",
		"main = times[n] u8;":                                                     "times[n] u8",
		"main = within[n] u8;":                                                    "within[n] u8",
		"main = switch n { 0: u8; };":                                             "switch n { 0: u8; }",
		"main = switch n % 2 { 0: u8; else: empty; };":                            "switch n % 2 { 0: u8; else: empty; }",
		"main = { d: bytes[n]; n: u8; };":                                         "bytes[n]", // it is behind it
		"main = { n: bytes[n]; };":                                                "bytes[n]", // or around it
		"main = { n: u8; d: bytes[m]; };":                                         "bytes[m]",
		"main = { n: u8; d: bytes[N]; };":                                         "bytes[N]",
		"main = { a: { n: u8; }; d: bytes[n]; };":                                 "bytes[n]", // not in a Record around it
		"main = { a: { d: bytes[n]; }; n: u8; };":                                 "bytes[n]",
		"main = { a: oneof { { n: u8; } | u16be }; d: bytes[n]; };":               "bytes[n]",
		"n = u8; main = { d: bytes[n]; };":                                        "bytes[n]", // a name is no field
		"n = u8; main = { n: n; d: bytes[n]; };":                                  "bytes[n]", // a Use is no number
		"a = bytes[n]; main = { n: u8; d: a; };":                                  "bytes[n]", // within the same name's type
		"main = { n: u8; d: u8; }; a = bytes[n];":                                 "bytes[n]",
		"a = { n: u8; d: bytes[n]; }; main = { d: times[n] a; };":                 "times[n] a",
		"main = { n: { m: u8; }; d: bytes[n]; };":                                 "bytes[n]",
		"main = { n: bytes[2]; d: bytes[n]; };":                                   "bytes[n]",
		"main = { n: /a/; d: bytes[n]; };":                                        "bytes[n]",
		"main = { n: oneof { u8 }; d: bytes[n]; };":                               "bytes[n]",
		"main = { n: within[1] u8; d: bytes[n]; };":                               "bytes[n]",
		"main = { n: empty; d: bytes[n]; };":                                      "bytes[n]",
		"main = { x: u8; n: u32be = crc(x..x); d: bytes[n]; };":                   "bytes[n]", // it is a checksum
		"main = { x: u8; n: u32be = crc(x..x); y: { d: bytes[n]; }; };":           "bytes[n]",
		"main = { n: u8; d: times[n] bytes[m]; };":                                "bytes[m]",
		"main = { n: u8; d: within[n] { e: switch m { 0: u8; }; m: u8; }; };":     "switch m { 0: u8; }",
		"main = { n: u8; m: switch n { 0: u8; 1: bytes[m]; else: bytes[n]; }; };": "bytes[m]",
		"main = { n: u8; m: switch n { 0: u8; 1: bytes[n]; else: bytes[m]; }; };": "bytes[m]",
	} {
		s := read(t, text)
		wantCheck(t, s, api.Fault{Code: api.ErrReg, At: at(t, s, kind)})
	}
}

func TestNotDerivable(t *testing.T) {
	for text, record := range map[string]string{
		"main = { n: u8 = size(d); d: bytes[2*n]; };":                "",
		"main = { n: u8 = size(d); d: bytes[n+1]; };":                "",
		"main = { n: u8 = size(d); d: bytes[5]; };":                  "",
		"main = { n: u8 = size(d); d: bytes[0]; };":                  "",
		"main = { m: u8; n: u8 = size(d); d: bytes[m]; };":           "", // by another one
		"main = { n: u8 = size(d); m: u8 = size(d); d: bytes[n]; };": "",
		"main = { n: u8 = count(d); d: bytes[n]; };":                 "",
		"main = { n: u8 = count(d); d: within[n] u8; };":             "",
		"main = { n: u8 = count(d); d: times[2*n] u8; };":            "",
		"main = { n: u8 = count(d); d: times[n+3] u8; };":            "",
		"main = { n: u8 = count(d); d: many u8; };":                  "",
		"main = { n: u8 = size(d); d: times[n] u8; };":               "",
		"main = { n: u8 = size(d); d: many u8; };":                   "",
		"main = { n: u8 = size(d); d: u8; };":                        "",
		"main = { n: u8 = size(d); d: /a/; };":                       "",
		"main = { n: u8 = size(d); d: { e: bytes[n]; }; };":          "", // that is only in it
		"main = { n: u8 = size(d); d: many bytes[n]; };":             "",
		"main = { n: u8 = size(d); d: switch n { 0: bytes[n]; }; };": "",
		"a = bytes[2]; main = { n: u8 = size(d); d: a; };":           "{ n: u8 = size(d); d: a; }",
		"main = { n: u8 = size(d); e: bytes[n]; };":                  "", // no such field
		"main = { n: u8 = size(n); d: bytes[n]; };":                  "",
		"main = { d: bytes[3]; n: u8 = size(d); };":                  "", // it is ahead
		"main = { m: u8; d: bytes[m]; n: u8 = size(d); };":           "",
		"main = { r: { n: u8 = size(d); }; d: bytes[4]; };":          "{ n: u8 = size(d); }", // not in its Record
		"main = { n: u8 = size(d); r: { d: bytes[n]; }; };":          "",
		"main = { n: zigzag = size(d); d: bytes[n]; };":              "", // signs are folded
		"main = { n: zigzag lenient = count(d); d: times[n] u8; };":  "",
		"a = u8; main = { n: a = size(d); d: bytes[2]; };":           "{ n: a = size(d); d: bytes[2]; }", // no numbers
		"main = { n: empty = size(d); d: bytes[2]; };":               "",
		"main = { n: bytes[1] = count(d); d: times[2] u8; };":        "",
		"main = { a: u8; s: u16be = crc(a..a); };":                   "",
		"main = { a: u8; s: u40be = crc(a..a); };":                   "",
		"main = { a: u8; s: varint = crc(a..a); };":                  "",
		"main = { a: u8; s: varint 0..4294967295 = crc(a..a); };":    "",
		"main = { a: u8; s: u32be 1..4294967295 = crc(a..a); };":     "", // not all its range
		"main = { a: u8; s: u32le 0..4294967294 = crc(a..a); };":     "",
		"main = { a: u8; s: bytes[4] = crc(a..a); };":                "",
		"a = u32be; main = { a: u8; s: a = crc(a..a); };":            "{ a: u8; s: a = crc(a..a); }",
		"main = { s: u32be = crc(a..a); a: u8; };":                   "", // they are behind
		"main = { a: u8; s: u32be = crc(a..b); b: u8; };":            "",
		"main = { a: u8; s: u32be = crc(b..a); b: u8; };":            "",
		"main = { a: u8; s: u32be = crc(s..s); };":                   "",
		"main = { a: u8; s: u32be = crc(a..s); };":                   "",
		"main = { a: u8; b: u8; s: u32be = crc(b..a); };":            "", // the wrong way round
		"main = { a: u8; s: u32be = crc(x..a); };":                   "",
		"main = { a: u8; s: u32be = crc(a..x); };":                   "",
		"main = { a: u8; r: { s: u32be = crc(a..a); }; };":           "{ s: u32be = crc(a..a); }", // not in its Record
		"main = { r: { a: u8; }; s: u32be = crc(a..a); };":           "",
	} {
		s := read(t, text)
		want := spec.Root(s)
		if record != "" {
			want = at(t, s, record)
		}
		wantCheck(t, s, api.Fault{Code: api.ErrDerive, At: want})
	}
}

// Sizes of what has sizes within that go by others.
func TestSizesOfWithins(t *testing.T) {
	for text, record := range map[string]string{ // empty: it is right
		"main = { n: u8 = size(w); w: within[n] many u8; };":                                                   "",
		"main = { n: u8 = size(w); w: within[n] bytes[n]; };":                                                  "{ n: u8 = size(w); w: within[n] bytes[n]; }",
		"main = { n: u8 = size(w); w: within[n] many { d: times[n] u8; }; };":                                  "{ n: u8 = size(w); w: within[n] many { d: times[n] u8; }; }",
		"main = { n: u8 = size(w); w: within[n] switch n { 0: u8; }; };":                                       "{ n: u8 = size(w); w: within[n] switch n { 0: u8; }; }",
		"main = { n: u8 = size(w); w: within[n] within[n] u8; };":                                              "{ n: u8 = size(w); w: within[n] within[n] u8; }",
		"main = { n: u8 = size(w); w: within[n] within[2] bytes[2*n+1]; };":                                    "{ n: u8 = size(w); w: within[n] within[2] bytes[2*n+1]; }",
		"main = { n: u8; w: within[n] bytes[n]; };":                                                            "", // it isn't derived
		"main = { n: u8 = size(b); b: bytes[n]; w: within[n] bytes[n]; };":                                     "",
		"main = { n: u8 = size(w); w: within[n] u8; b: bytes[n]; };":                                           "", // it isn't within
		"main = { n: u8 = size(w); m: u8; w: within[n] bytes[m]; };":                                           "",
		"main = { m: u8 = size(b); n: u8 = size(w); b: bytes[m]; w: within[n] bytes[m]; };":                    "", // the size of no Within
		"main = { m: u8 = count(b); n: u8 = size(w); b: times[m] u8; w: within[n] bytes[m]; };":                "",
		"main = { m: u8 = size(v); n: u8 = size(w); v: within[m] u8; w: within[n] bytes[m]; };":                "{ m: u8 = size(v); n: u8 = size(w); v: within[m] u8; w: within[n] bytes[m]; }",
		"main = { m: u8 = size(v); n: u8 = size(w); v: within[m] u8; w: within[n] u8; b: bytes[m]; };":         "",
		"main = { m: u8 = size(v); n: u8 = size(w); w: within[n] switch m { 0: empty; }; v: within[m] u8; };":  "{ m: u8 = size(v); n: u8 = size(w); w: within[n] switch m { 0: empty; }; v: within[m] u8; }",
		"main = { n: u8 = size(w); w: within[n] { m: u8 = size(v); v: within[m] u8; }; };":                     "",
		"main = { n: u8 = size(w); w: within[n] { m: u8 = size(v); v: within[m] u8; b: bytes[m]; }; };":        "", // within itself it may
		"main = { n: u8 = size(w); w: within[n] { m: u8 = size(v); v: within[m] u8; b: bytes[n]; }; };":        "{ n: u8 = size(w); w: within[n] { m: u8 = size(v); v: within[m] u8; b: bytes[n]; }; }",
		"main = { n: u8 = size(w); w: within[n] { m: u8 = size(v); v: within[m] bytes[m]; }; };":               "{ m: u8 = size(v); v: within[m] bytes[m]; }",
		"main = { n: u8 = size(w); w: within[n] { m: u8 = size(v); v: within[m] bytes[n]; }; };":               "{ m: u8 = size(v); v: within[m] bytes[n]; }",
		"main = { n: u8 = size(w); w: within[n] { m: u8; v: within[m] bytes[m]; }; };":                         "",
		"main = { x: u8; r: { n: u8 = size(w); w: within[n] bytes[x]; }; };":                                   "",
		"main = { x: u8 = size(b); r: { n: u8 = size(w); w: within[n] bytes[x]; }; b: bytes[x]; };":            "",
		"main = { x: u8 = size(b); r: { n: u8 = size(w); w: within[n] bytes[x]; }; b: within[x] u8; };":        "{ n: u8 = size(w); w: within[n] bytes[x]; }",
		"main = { x: u8 = count(b); r: { n: u8 = size(w); w: within[n] bytes[x]; }; b: within[x] u8; };":       "{ x: u8 = count(b); r: { n: u8 = size(w); w: within[n] bytes[x]; }; b: within[x] u8; }", // it is no size, but can't be derived
		"main = { x: u8 = size(b); r: { n: u8 = size(w); w: within[n] bytes[x]; }; b: within[2*x] u8; };":      "{ n: u8 = size(w); w: within[n] bytes[x]; }",                                            // it is one, though it can't be
		"main = { x: u8 = size(b); r: { n: u8 = size(w); w: within[n] u8; }; b: within[x] u8; };":              "",
		"a = { n: u8 = size(w); w: within[n] u8; b: bytes[n]; }; main = { n: u8 = size(w); w: within[n] a; };": "", // Uses' types aside
	} {
		s := read(t, text)
		want := api.Fault{}
		if record != "" {
			want = api.Fault{Code: api.ErrDerive, At: at(t, s, record)}
		}
		wantCheck(t, s, want)
	}
}

// What no text says: fields that are derived in part, or in no way that there is.
func TestOddFields(t *testing.T) {
	text := "main = { a: u8; n: u8 = size(d); d: bytes[n]; m: u8 = count(e); e: times[m] u8; s: u32be = crc(a..e); };"
	for _, w := range []struct {
		i      int
		change func(f *api.Field)
	}{
		{0, func(f *api.Field) { f.Of = "d" }},
		{0, func(f *api.Field) { f.To = "a" }},
		{0, func(f *api.Field) { f.Of, f.To = "a", "a" }},
		{1, func(f *api.Field) { f.Derive = api.Plain }},
		{1, func(f *api.Field) { f.Derive = api.CountOf }},
		{1, func(f *api.Field) { f.To = "d" }},
		{1, func(f *api.Field) { f.To = "x" }},
		{1, func(f *api.Field) { f.Of = "" }},
		{1, func(f *api.Field) { f.Derive = -1 }},
		{1, func(f *api.Field) { f.Derive = 4 }},
		{3, func(f *api.Field) { f.Derive = math.MaxInt }},
		{3, func(f *api.Field) { f.Derive = math.MinInt }},
		{3, func(f *api.Field) { f.To = "a" }},
		{0, func(f *api.Field) { f.Derive = 4 }},
		{5, func(f *api.Field) { f.Of = "" }},
		{5, func(f *api.Field) { f.To = "" }},
		{5, func(f *api.Field) { f.Derive = 4 }},
		{5, func(f *api.Field) { f.Derive = api.SizeOf }},
	} {
		s := read(t, text)
		wantCheck(t, s, api.Fault{})
		w.change(&s.Nodes[spec.Root(s)].Fields[w.i])
		wantCheck(t, s, api.Fault{Code: api.ErrDerive, At: spec.Root(s)})
	}
}

func TestWhatIsToldFirst(t *testing.T) {
	for text, want := range map[string]struct {
		code api.Errno
		kind string
	}{
		"a = bytes[x]; b = bytes[y]; main = bytes[z];":                                 {api.ErrReg, "bytes[x]"}, // name by name
		"a = { n: u8 = size(d); }; main = bytes[z];":                                   {api.ErrDerive, "{ n: u8 = size(d); }"},
		"a = bytes[z]; main = { n: u8 = size(d); };":                                   {api.ErrReg, "bytes[z]"},
		"main = times[x] times[y] u8;":                                                 {api.ErrReg, "times[x] times[y] u8"}, // ahead of its parts
		"main = switch x { 0: bytes[y]; };":                                            {api.ErrReg, "switch x { 0: bytes[y]; }"},
		"main = { a: bytes[x]; b: bytes[y]; };":                                        {api.ErrReg, "bytes[x]"},
		"main = oneof { bytes[3] | bytes[x] | bytes[y] };":                             {api.ErrReg, "bytes[x]"},
		"main = { n: u8; s: switch n { 0: u8; 1: bytes[x]; else: bytes[y]; }; };":      {api.ErrReg, "bytes[x]"},
		"main = { n: u8 = size(d); d: bytes[3]; e: bytes[x]; };":                       {api.ErrReg, "bytes[x]"}, // behind the fields
		"main = { n: u8 = size(d); r: { m: u8 = size(e); }; };":                        {api.ErrDerive, "{ m: u8 = size(e); }"},
		"main = { r: { m: u8 = size(e); }; d: bytes[x]; };":                            {api.ErrDerive, "{ m: u8 = size(e); }"},
		"main = { a: oneof { { m: u8 = size(e); } | u8 }; d: bytes[x]; };":             {api.ErrDerive, "{ m: u8 = size(e); }"},
		"main = { n: u8 = size(w); w: within[n] { x: bytes[n]; m: u8 = size(y); }; };": {api.ErrDerive, "{ x: bytes[n]; m: u8 = size(y); }"},
		"main = { a: u8; a: bytes[x]; };":                                              {api.ErrTwice, "{ a: u8; a: bytes[x]; }"}, // names come first
		"a = bytes[x]; main = { a: x; };":                                              {api.ErrUse, "x"},
	} {
		s := read(t, text)
		wantCheck(t, s, api.Fault{Code: want.code, At: at(t, s, want.kind)})
	}
	wantCheck(t, api.Spec{}, api.Fault{Code: api.ErrLong})
	deep := sample.Nested(201)
	wantCheck(t, deep, api.Fault{Code: api.ErrDeep, At: 200})
	deep.Nodes[0] = api.Node{Kind: api.Blob, Expr: api.Expr{Reg: "x", Mul: 1}}
	wantCheck(t, deep, api.Fault{Code: api.ErrDeep, At: 200})
}

// spoilt: a specification in which something goes by another name, or is derived otherwise.
func spoilt(m *sample.Maker, s api.Spec) api.Spec {
	s = spec.Clone(s)
	var changes []func()
	name := "f" + strconv.Itoa(m.UpTo(6))
	for at := range s.Nodes {
		n := &s.Nodes[at]
		switch {
		case n.Kind == api.Switch:
			changes = append(changes, func() { n.Reg = name })
		case n.Kind == api.Blob || n.Kind == api.Times || n.Kind == api.Within:
			changes = append(changes, func() { n.Expr = api.Expr{Reg: name, Mul: 1, Add: uint64(m.UpTo(2))} }, func() { n.Expr = api.Expr{} })
		case n.Kind == api.Fixed:
			changes = append(changes, func() { n.Max = spec.Most(*n) - uint64(m.UpTo(2)) })
		}
		for i := range n.Fields {
			f := &n.Fields[i]
			changes = append(changes,
				func() { f.Of = name }, func() { f.To = name }, func() { f.Of, f.To = "", "" },
				func() { f.Derive = m.UpTo(5) }, func() { f.Derive, f.Of, f.To = api.Plain, "", "" },
				func() { f.Derive, f.Of = api.SumOf, name })
		}
	}
	if len(changes) > 0 {
		changes[m.UpTo(len(changes))]()
	}
	return s
}

func TestCheckOfSamples(t *testing.T) {
	m := &sample.Maker{Seed: 15}
	met := map[api.Errno]int{}
	for range 3000 {
		s := m.Shuffled(m.Accepted(1 + m.UpTo(4)))
		if len(s.Nodes) > 120 {
			continue
		}
		if f := reg.Check(s); f != (api.Fault{}) {
			t.Fatalf("%s: %v", show.Text(s), f)
		}
		for range m.UpTo(4) {
			s = spoilt(m, s)
		}
		kept := spec.Clone(s)
		f, want := reg.Check(s), check(s)
		if f != want {
			t.Fatalf("%s (%+v): %v, want %v", show.Text(s), s, f, want)
		}
		if !reflect.DeepEqual(s, kept) {
			t.Fatalf("what was handed in was changed: %+v", s)
		}
		wantLinks(t, s)
		met[f.Code]++
	}
	for _, code := range []api.Errno{api.OK, api.ErrReg, api.ErrDerive} {
		if met[code] < 200 {
			t.Errorf("met: %v", met)
		}
	}
}

// Samples whose names are right, whatever their numbers are: hardly any has right ones.
func TestCheckOfScoped(t *testing.T) {
	m := &sample.Maker{Seed: 16}
	for range 1500 {
		s := m.Shuffled(m.Spec(m.UpTo(4)))
		if m.UpTo(5) > 0 {
			s = m.Shuffled(m.Scoped(m.UpTo(4)))
		}
		if len(s.Nodes) > 120 {
			continue
		}
		if f, want := reg.Check(s), check(s); f != want {
			t.Fatalf("%s (%+v): %v, want %v", show.Text(s), s, f, want)
		}
		wantLinks(t, s)
	}
}

// As many Records in one another as there can be, whose sizes are those of what they are in.
func TestManyWithins(t *testing.T) {
	s := api.Spec{Nodes: []api.Node{{Kind: api.Fixed, Width: 1, Max: 255}}}
	for i := 0; len(s.Nodes) < spec.MaxNodes-6; i++ {
		n, w := "n"+strconv.Itoa(i), "w"+strconv.Itoa(i)
		within := len(s.Nodes) + 1
		s.Nodes = append(s.Nodes,
			api.Node{Kind: api.Varint, Max: math.MaxUint64},
			api.Node{Kind: api.Within, Expr: api.Expr{Reg: n, Mul: 1}, Kids: []int{within - 2}},
			api.Node{Kind: api.Record, Fields: []api.Field{{Name: n, Type: within - 1, Derive: api.SizeOf, Of: w}, {Name: w, Type: within}}})
	}
	s.Nodes = append(s.Nodes, api.Node{Kind: api.Empty})
	s.Defs = []api.Def{{Name: "a", Type: len(s.Nodes) - 2}, {Name: "main", Type: len(s.Nodes) - 1}} // only the whole mayn't be so deep
	if f := reg.Check(s); f != (api.Fault{}) {
		t.Error(f)
	}
	s.Nodes[0] = api.Node{Kind: api.Blob, Expr: api.Expr{Reg: "n9", Mul: 1}}
	if f := reg.Check(s); f != (api.Fault{Code: api.ErrDerive, At: 3}) { // the Record around the innermost Within
		t.Error(f)
	}
}

// P15.2

// wantLinks tells if Links, By or Asked of a specification aren't what is found by going up from each type.
func wantLinks(t *testing.T, s api.Spec) {
	t.Helper()
	want := check(s)
	links, f := reg.Links(s)
	asked, g := reg.Asked(s)
	if f != want || g != want {
		t.Fatalf("%s: %v and %v, want %v", show.Text(s), f, g, want)
	}
	if want.Code != api.OK {
		if _, ok := reg.By(s, len(s.Nodes)/2); links != nil || asked != nil || ok {
			t.Fatalf("%s: %v and %v, beside %v", show.Text(s), links, asked, f)
		}
		return
	}
	var all []reg.Link
	counts := map[[2]int]int{}
	for at := range s.Nodes {
		l, ok := reg.Link{}, false
		if name(s.Nodes[at]) != "" {
			l, ok = goes(s, at)
			all = append(all, l)
			counts[[2]int{l.Record, l.Field}]++
		}
		if got, is := reg.By(s, at); got != l || is != ok {
			t.Fatalf("%s: By of %d: %v, %v, want %v, %v", show.Text(s), at, got, is, l, ok)
		}
	}
	if !slices.Equal(links, all) || !maps.Equal(asked, counts) {
		t.Fatalf("%s: Links %v, want %v; Asked %v, want %v", show.Text(s), links, all, asked, counts)
	}
}

func TestLinks(t *testing.T) {
	s := read(t, "a = { k: u8; b: bytes[k]; }; main = { n: u8 = size(d); d: bytes[n]; r: { m: varint; t: times[m] within[2*n] a; w: switch m % 3 { 0: bytes[m+1]; }; v: bytes[5]; }; };")
	inner := at(t, s, "{ m: varint; t: times[m] within[2*n] a; w: switch m % 3 { 0: bytes[m+1]; }; v: bytes[5]; }")
	a, root := spec.Def(s, "a"), spec.Root(s)
	want := []reg.Link{
		{at(t, s, "bytes[k]"), a, 0},
		{at(t, s, "bytes[n]"), root, 0},
		{at(t, s, "within[2*n] a"), root, 0},
		{at(t, s, "times[m] within[2*n] a"), inner, 0},
		{at(t, s, "bytes[m+1]"), inner, 0},
		{at(t, s, "switch m % 3 { 0: bytes[m+1]; }"), inner, 0},
	}
	got, f := reg.Links(s)
	if f != (api.Fault{}) || !slices.Equal(got, want) { // a type's parts are ahead of it
		t.Errorf("%v, %v, want %v", got, f, want)
	}
	asked, f := reg.Asked(s)
	if f != (api.Fault{}) || !maps.Equal(asked, map[[2]int]int{{a, 0}: 1, {root, 0}: 2, {inner, 0}: 3}) {
		t.Errorf("%v, %v", asked, f)
	}
	for _, at := range []int{-1, math.MinInt, len(s.Nodes), math.MaxInt, root, a, inner, at(t, s, "bytes[5]"), at(t, s, "varint")} {
		if l, ok := reg.By(s, at); l != (reg.Link{}) || ok {
			t.Errorf("By of %d: %v, %v", at, l, ok)
		}
	}
	for _, l := range want {
		if got, ok := reg.By(s, l.Type); got != l || !ok {
			t.Errorf("By of %d: %v, %v", l.Type, got, ok)
		}
	}
	wantLinks(t, s)
}

func TestLinksToOtherFields(t *testing.T) {
	s := read(t, "main = { x: u8; y: empty; n: u16be; m: zigzag; a: bytes[m]; b: bytes[n]; c: { x0: u8; d: bytes[x]; e: bytes[x0]; }; };")
	root, inner := spec.Root(s), at(t, s, "{ x0: u8; d: bytes[x]; e: bytes[x0]; }")
	for text, want := range map[string][2]int{"bytes[m]": {root, 3}, "bytes[n]": {root, 2}, "bytes[x]": {root, 0}, "bytes[x0]": {inner, 0}} {
		at := at(t, s, text)
		if l, ok := reg.By(s, at); !ok || l != (reg.Link{Type: at, Record: want[0], Field: want[1]}) {
			t.Errorf("By of %s: %v, %v", text, l, ok)
		}
	}
	asked, _ := reg.Asked(s)
	if !maps.Equal(asked, map[[2]int]int{{root, 3}: 1, {root, 2}: 1, {root, 0}: 1, {inner, 0}: 1}) {
		t.Errorf("%v", asked)
	}
}

func TestNoLinks(t *testing.T) {
	s := read(t, "main = { n: u8; d: bytes[3]; };")
	links, f := reg.Links(s)
	asked, g := reg.Asked(s)
	if len(links) != 0 || len(asked) != 0 || f != (api.Fault{}) || g != (api.Fault{}) {
		t.Errorf("%v, %v, %v, %v", links, f, asked, g)
	}
	s = read(t, "main = { n: u8; d: bytes[n]; e: bytes[m]; };")
	links, f = reg.Links(s)
	asked, g = reg.Asked(s)
	want := api.Fault{Code: api.ErrReg, At: at(t, s, "bytes[m]")}
	if links != nil || asked != nil || f != want || g != want {
		t.Errorf("%v, %v, %v, %v", links, f, asked, g)
	}
	if l, ok := reg.By(s, at(t, s, "bytes[n]")); l != (reg.Link{}) || ok { // the numbers aren't right
		t.Errorf("%v, %v", l, ok)
	}
}

// The same each time, in whatever order a map is gone through.
func TestLinksAreInOrder(t *testing.T) {
	m := &sample.Maker{Seed: 17}
	for range 100 {
		s := m.Shuffled(m.Accepted(4))
		first, _ := reg.Links(s)
		if !slices.IsSortedFunc(first, func(a, b reg.Link) int { return a.Type - b.Type }) {
			t.Fatalf("%v", first)
		}
		for range 5 {
			if again, _ := reg.Links(s); !slices.Equal(first, again) {
				t.Fatalf("%v and %v", first, again)
			}
		}
	}
}

// P15.3

func TestSumsAndDerived(t *testing.T) {
	s := read(t, "main = { a: u8 = size(c); b: u8 = count(d); c: bytes[a]; d: times[b] u8; e: u32be = crc(a..c); f: u32le = crc(b..e); };")
	n := s.Nodes[spec.Root(s)]
	if got := reg.Sums(n); !slices.Equal(got, [][3]int{{4, 0, 2}, {5, 1, 4}}) {
		t.Errorf("Sums: %v", got)
	}
	for i, want := range map[int]int{0: -1, 1: -1, 2: 0, 3: 1, 4: -1, 5: -1, 6: -1, -1: -1, math.MinInt: -1, math.MaxInt: -1} {
		if got := reg.Derived(n, i); got != want {
			t.Errorf("Derived of %d: %d, want %d", i, got, want)
		}
	}
	for _, n := range s.Nodes[:spec.Root(s)] {
		if len(reg.Sums(n)) != 0 || reg.Derived(n, 0) != -1 {
			t.Errorf("of %v: %v, %d", n, reg.Sums(n), reg.Derived(n, 0))
		}
	}
}

// Records that may not be.
func TestSumsAndDerivedOfRawOnes(t *testing.T) {
	n := api.Node{Kind: api.Record, Fields: []api.Field{
		{Name: "s", Derive: api.SumOf, Of: "x", To: "b"},
		{Name: "a", Derive: api.SizeOf, Of: "b", Type: -5},
		{Name: "b", Derive: api.CountOf, Of: "s", Type: math.MaxInt},
		{Name: "c", Derive: api.SizeOf, Of: "b"},
		{Name: "d", Derive: api.SumOf, Of: "d", To: ""},
		{Name: "e", Derive: 7, Of: "a"},
		{Name: "f", Of: "c"},
		{Name: "g", Derive: api.CountOf, Of: "e"},
		{Name: "h", Derive: api.CountOf, Of: "nowhere"},
	}}
	if got := reg.Sums(n); !slices.Equal(got, [][3]int{{0, -1, 2}, {4, 4, -1}}) {
		t.Errorf("Sums: %v", got)
	}
	for i, want := range []int{2, -1, 1, -1, -1, 7, -1, -1, -1} {
		if got := reg.Derived(n, i); got != want {
			t.Errorf("Derived of %d: %d, want %d", i, got, want)
		}
	}
	if got := reg.Sums(api.Node{}); len(got) != 0 {
		t.Errorf("Sums of nothing: %v", got)
	}
}

// P1, P2

func TestRawOnes(t *testing.T) {
	for _, s := range sample.Wrongs() {
		kept := spec.Clone(s)
		f := scope.Check(s)
		if got := reg.Check(s); f.Code != api.OK && got != f { // layer 14's fault
			t.Errorf("Check of %+v: %v, want %v", s, got, f)
		}
		links, g := reg.Links(s)
		asked, h := reg.Asked(s)
		if f.Code != api.OK && (links != nil || g != f || asked != nil || h != f) {
			t.Errorf("of %+v: %v, %v, %v, %v", s, links, g, asked, h)
		}
		for at := -3; at < 10; at++ {
			if l, ok := reg.By(s, at); f.Code != api.OK && (l != reg.Link{} || ok) {
				t.Errorf("By of %+v: %v, %v", s, l, ok)
			}
		}
		for _, n := range s.Nodes {
			reg.Sums(n)
			for i := -3; i < 5; i++ {
				reg.Derived(n, i)
			}
		}
		if !reflect.DeepEqual(s, kept) {
			t.Errorf("what was handed in was changed: %+v", s)
		}
	}
}

// What is answered is new memory.
func TestAnswersAreTheirOwn(t *testing.T) {
	s := read(t, "main = { a: u8; b: bytes[a]; c: bytes[a]; d: u32be = crc(a..c); e: u32be = crc(a..d); };")
	n := s.Nodes[spec.Root(s)]
	links, _ := reg.Links(s)
	asked, _ := reg.Asked(s)
	sums := reg.Sums(n)
	wantAll, wantAsked, wantSums := slices.Clone(links), maps.Clone(asked), slices.Clone(sums)
	for i := range links[:cap(links)] {
		links[:cap(links)][i] = reg.Link{Type: 77}
	}
	for i := range sums[:cap(sums)] {
		sums[:cap(sums)][i] = [3]int{77}
	}
	clear(asked)
	links, _ = reg.Links(s)
	asked, _ = reg.Asked(s)
	if !slices.Equal(links, wantAll) || !maps.Equal(asked, wantAsked) || !slices.Equal(reg.Sums(n), wantSums) {
		t.Errorf("%v, %v, %v", links, asked, reg.Sums(n))
	}
}

func TestExamples(t *testing.T) {
	s := read(t, "main = { n: u8 = size(d); d: bytes[n]; };")
	if got := reg.Derived(s.Nodes[2], 1); got != 0 {
		t.Errorf("Derived: %d", got)
	}
	if l, ok := reg.By(s, at(t, s, "bytes[n]")); !ok || l != (reg.Link{Type: 1, Record: 2, Field: 0}) {
		t.Errorf("%v, %v", l, ok)
	}
	wantCheck(t, read(t, "main = { n: u8 = size(d); d: bytes[2*n]; };"), api.Fault{Code: api.ErrDerive, At: 2})
}
