package first_test

import (
	"math"
	"reflect"
	"slices"
	"strings"
	"testing"

	"guipure/api"
	"guipure/class"
	"guipure/dfa"
	"guipure/first"
	"guipure/parse"
	"guipure/reg"
	"guipure/sample"
	"guipure/show"
	"guipure/spec"
)

// read: the specification of a text.
func read(t *testing.T, text string) api.Spec {
	t.Helper()
	s, f := parse.Parse(text)
	if f.Code != api.OK {
		t.Fatalf("Parse of %.200q: %v", text, f)
	}
	return s
}

// at: the only type that stands so in a text.
func at(t *testing.T, s api.Spec, text string) int {
	t.Helper()
	found := -1
	for i := range s.Nodes {
		if show.Kind(s, i) != text {
			continue
		}
		if found >= 0 {
			t.Fatalf("%q stands there twice", text)
		}
		found = i
	}
	if found < 0 {
		t.Fatalf("%q doesn't stand there", text)
	}
	return found
}

// wantCheck tells if Check of a specification isn't that.
func wantCheck(t *testing.T, s api.Spec, want api.Fault) {
	t.Helper()
	if f := first.Check(s); f != want {
		t.Errorf("%.300s: %v, want %v", show.Text(s), f, want)
	}
	if f := check(s); f != want {
		t.Errorf("%.300s: the tests' %v, want %v", show.Text(s), f, want)
	}
}

// P16.1

// info: what is known of a type: the bytes, and whether it may be empty, and goes on to the limit.
func info(s class.Set, null, open bool) first.Info {
	return first.Info{First: s, Null: null, Open: open}
}

func TestKnown(t *testing.T) {
	none, all, digits := class.Set{}, class.All(), class.Range(0, 9)
	for _, w := range []struct {
		text, kind string
		want       first.Info
	}{
		{"main = u8 0..9;", "u8 0..9", info(digits, false, false)},
		{"main = u16le 0..9;", "u16le 0..9", info(digits, false, false)},
		{"main = u16be 0..9;", "u16be 0..9", info(class.Of(0), false, false)},
		{"main = varint 0..9;", "varint 0..9", info(digits, false, false)},
		{"main = varint lenient 0..9;", "varint lenient 0..9", info(digits.Or(class.Range(128, 137)), false, false)},
		{"main = /x[0-9];|ab/;", "/x[0-9];|ab/", info(class.Of('x', 'a'), false, false)},
		{"main = /[a-c]*d/;", "/[a-c]*d/", info(class.Range('a', 'd'), false, false)},
		{"main = bytes[3];", "bytes[3]", info(all, false, false)},
		{"main = bytes[0];", "bytes[0]", info(none, true, false)},
		{"main = { n: u8; d: bytes[n]; };", "bytes[n]", info(all, true, false)},
		{"main = { n: u8; d: bytes[2*n+1]; };", "bytes[2*n+1]", info(all, false, false)},
		{"main = times[3] u8 0..9;", "times[3] u8 0..9", info(digits, false, false)},
		{"main = times[0] u8 0..9;", "times[0] u8 0..9", info(none, true, false)},
		{"main = { n: u8; d: times[n] u8 0..9; };", "times[n] u8 0..9", info(digits, true, false)},
		{"main = { n: u8; d: times[n+1] u8 0..9; };", "times[n+1] u8 0..9", info(digits, false, false)},
		{"main = within[3] u8 0..9;", "within[3] u8 0..9", info(digits, false, false)},
		{"main = within[0] u8 0..9;", "within[0] u8 0..9", info(digits, true, false)}, // whatever can be in it
		{"main = { n: u8; d: within[n] u8 0..9; };", "within[n] u8 0..9", info(digits, true, false)},
		{"main = { n: u8; d: within[n+2] u8 0..9; };", "within[n+2] u8 0..9", info(digits, false, false)},
		{"main = within[2] many u8 0..9;", "within[2] many u8 0..9", info(digits, false, false)}, // it is its own limit
		{"main = within[2] empty;", "within[2] empty", info(none, false, false)},
		{"main = within[0] empty;", "within[0] empty", info(none, true, false)},
		{"main = many u8 0..9;", "many u8 0..9", info(digits, true, true)},
		{"main = empty;", "empty", info(none, true, false)},
		{"main = { a: u8 0..9; b: /a/; };", "{ a: u8 0..9; b: /a/; }", info(digits, false, false)},
		{"main = { a: empty; b: /a/; c: /b/; };", "{ a: empty; b: /a/; c: /b/; }", info(class.Of('a'), false, false)},
		{"main = { a: empty; b: bytes[0]; };", "{ a: empty; b: bytes[0]; }", info(none, true, false)},
		{"main = { a: empty; b: many u8 0..9; };", "{ a: empty; b: many u8 0..9; }", info(digits, true, true)},
		{"main = { a: within[0] /a/; b: within[0] /b/; c: /c/; d: /d/; };", "{ a: within[0] /a/; b: within[0] /b/; c: /c/; d: /d/; }", info(class.Of('a', 'b', 'c'), false, false)},
		{"main = { a: /a/; b: many u8; };", "{ a: /a/; b: many u8; }", info(class.Of('a'), false, true)},
		{"main = { a: /a/; b: { c: many u8; }; };", "{ a: /a/; b: { c: many u8; }; }", info(class.Of('a'), false, true)},
		{"main = { a: within[1] many u8; b: /b/; };", "{ a: within[1] many u8; b: /b/; }", info(all, false, false)},
		{"main = oneof { /a/ | u8 0..9 };", "oneof { /a/ | u8 0..9 }", info(digits.Or(class.Of('a')), false, false)},
		{"main = oneof { { a: /a/; b: many u8; } | u8 0..9 };", "oneof { { a: /a/; b: many u8; } | u8 0..9 }", info(digits.Or(class.Of('a')), false, true)},
		{"main = oneof { u8 0..9 | { a: /a/; b: many u8; } };", "oneof { u8 0..9 | { a: /a/; b: many u8; } }", info(digits.Or(class.Of('a')), false, true)},
		{"main = chain { /a/ | last u8 0..9 };", "chain { /a/ | last u8 0..9 }", info(digits.Or(class.Of('a')), false, false)},
		{"main = chain { u8 0..9 | last { a: /a/; b: many u8; } };", "chain { u8 0..9 | last { a: /a/; b: many u8; } }", info(digits.Or(class.Of('a')), false, true)},
		{"main = { n: u8; s: switch n { 0: /a/; 1: u8 0..9; }; };", "switch n { 0: /a/; 1: u8 0..9; }", info(digits.Or(class.Of('a')), false, false)},
		{"main = { n: u8; s: switch n { 0: /a/; else: u8 0..9; }; };", "switch n { 0: /a/; else: u8 0..9; }", info(digits.Or(class.Of('a')), false, false)},
		{"main = { n: u8; s: switch n { 0: /a/; 1: empty; }; };", "switch n { 0: /a/; 1: empty; }", info(class.Of('a'), true, false)},
		{"main = { n: u8; s: switch n { 0: /a/; else: empty; }; };", "switch n { 0: /a/; else: empty; }", info(class.Of('a'), true, false)},
		{"main = { n: u8; s: switch n { 0: /a/; else: many u8 0..9; }; };", "switch n { 0: /a/; else: many u8 0..9; }", info(digits.Or(class.Of('a')), true, true)},
		{"a = many u8 0..9; main = a;", "a", info(digits, true, true)},
		{"a = /a/; b = a; main = b;", "b", info(class.Of('a'), false, false)},
		{"a = /a/; b = { x: a; y: a; }; main = { z: b; };", "{ z: b; }", info(class.Of('a'), false, false)},
		{"a = within[0] /a/; b = { x: a; y: a; }; main = { z: b; w: u8 0..9; };", "{ z: b; w: u8 0..9; }", info(digits.Or(class.Of('a')), false, false)},
	} {
		s := read(t, w.text)
		list, f := first.Infos(s)
		if f != (api.Fault{}) || len(list) != len(s.Nodes) {
			t.Errorf("%s: %v, of %d types", w.text, f, len(list))
			continue
		}
		if got := list[at(t, s, w.kind)]; got != w.want {
			t.Errorf("%s: %s, %v, want %s, %v", w.text, class.Text(got.First), got, class.Text(w.want.First), w.want)
		}
		if want := infos(s); !slices.Equal(list, want) {
			t.Errorf("%s: %v, want %v", w.text, list, want)
		}
	}
}

// P16.3

func TestAccepted(t *testing.T) {
	for _, text := range []string{
		"main = /a*b|c{3}|d{2,4}e/;",
		"main = { a: u8; b: many u8; };",
		"main = { a: within[3] many u8; b: u8; };",
		"main = { a: u8; b: { c: u8; d: many u8; }; };",
		"main = { n: u8; s: switch n { 0: u8; else: many u8; }; };",
		"main = { n: u8; s: switch n { 0: u8; 18446744073709551615: u8; 7: empty; else: empty; }; };",
		"main = { n: u8; s: switch n % 3 { 2: u8; 0: u8; 1: u8; }; };",
		"main = { n: u8; s: switch n % 1 { 0: u8; }; };",
		"main = many { n: u8; d: bytes[n]; };",
		"main = { n: u8; d: times[n] bytes[n+1]; };",
		"main = times[0] u8;",
		"main = many within[2] many within[1] many u8;",
		"main = oneof { u8 0..9 | /a/ | u16be 49152..65535 };",
		"main = oneof { u8 };",
		"main = oneof { { a: u8 0..0; b: many u8; } | { a: u8 1..1; b: many u8; } };",
		"main = oneof { within[1] empty | u8 };", // it begins with none, and isn't empty
		"main = chain { u8 0..9 | last /a/ };",
		"main = chain { last /a/ | u8 0..9 };",
		"main = chain { last u8 };",
		"main = chain { last u8 0..9 | last /a/ };",
		"main = chain { u8 0..9 | last { a: /a/; b: many u8; } };",
		"a = many u8; b = { x: u8; y: a; }; main = oneof { { c: u8 0..9; d: b; } | /a/ };",
		"main = within[0] empty;",
	} {
		wantCheck(t, read(t, text), api.Fault{})
	}
}

func TestRefusedTokens(t *testing.T) {
	for text, want := range map[string]api.Errno{
		"(":      api.ErrForm,
		"a**b)":  api.ErrForm,
		"a{2":    api.ErrForm,
		"[b-a]":  api.ErrRange,
		"a{257}": api.ErrRange,
		"a{3,2}": api.ErrRange,
		"[]":     api.ErrEmpty,
		strings.Repeat("(", 33) + "a" + strings.Repeat(")", 33): api.ErrDeep,
		strings.Repeat("a", 513):                                api.ErrLong,
		strings.Repeat("a", 512):                                api.ErrLong, // with the Cat one expression too many
		strings.Repeat("a", 511):                                api.OK,
		"(a{255}){255}":                                         api.ErrStates, // layer 7's
		"(a{255}){5}":                                           api.ErrStates, // layer 8's
		"(a|b)*c(a|b){250}d":                                    api.OK,
		"(a|b)*a(a|b){250}":                                     api.ErrStates,
		"a*":                                                    api.ErrEmpty,
		"a?":                                                    api.ErrEmpty,
		"()":                                                    api.ErrEmpty,
		"a|":                                                    api.ErrEmpty,
		"(a|b?){0,3}":                                           api.ErrEmpty,
		"a{0}":                                                  api.ErrEmpty,
		"a+":                                                    api.ErrPrefix,
		"ab?":                                                   api.ErrPrefix,
		"a|ab":                                                  api.ErrPrefix,
		"ab|a":                                                  api.ErrPrefix,
		"a{2,3}":                                                api.ErrPrefix,
		".*a":                                                   api.ErrPrefix,
		"(ab)*a":                                                api.ErrPrefix,
		"a{3}":                                                  api.OK,
		"(ab)*c":                                                api.OK,
		"[^a]*a":                                                api.OK,
	} {
		s := read(t, "a = u8; main = { x: u8; y: /"+text+"/; z: a; };")
		fault := api.Fault{}
		if want != api.OK {
			fault = api.Fault{Code: want, At: 2}
		}
		wantCheck(t, s, fault)
	}
}

// Texts that no specification's text has.
func TestOddTokens(t *testing.T) {
	for text, want := range map[string]api.Errno{
		"/": api.ErrForm, "a/b": api.ErrForm, "\n": api.ErrForm, "a\x00": api.ErrForm, "\xff": api.ErrForm, "é": api.ErrForm,
		"a#": api.ErrForm, " ": api.OK, `\/`: api.OK, strings.Repeat("a|", 300): api.ErrLong,
	} {
		s := api.Spec{Nodes: []api.Node{{Kind: api.Token, Text: text}}, Defs: []api.Def{{Name: "main"}}}
		wantCheck(t, s, api.Fault{Code: want})
	}
}

// refusal is an error, and the type at which it is told, as it stands in a text.
type refusal struct {
	code api.Errno
	kind string
}

// wantRefused tells if Checks of texts aren't these; the empty kind is the whole.
func wantRefused(t *testing.T, list map[string]refusal) {
	t.Helper()
	for text, want := range list {
		s := read(t, text)
		kind := spec.Root(s)
		if want.kind != "" {
			kind = at(t, s, want.kind)
		}
		wantCheck(t, s, api.Fault{Code: want.code, At: kind})
		list, f := first.Infos(s)
		autos, g := first.Autos(s)
		if list != nil || autos != nil || f != (api.Fault{Code: want.code, At: kind}) || g != f {
			t.Errorf("%s: %v, %v, %v, %v", text, list, f, autos, g)
		}
	}
}

func TestRefusedRecords(t *testing.T) {
	wantRefused(t, map[string]refusal{
		"main = { a: many u8; b: u8; };":                                           {api.ErrPrefix, ""},
		"main = { a: many u8; b: empty; };":                                        {api.ErrPrefix, ""},
		"main = { a: many u8; b: many u8; };":                                      {api.ErrPrefix, ""},
		"main = { a: u8; b: many u8; c: u8; };":                                    {api.ErrPrefix, ""},
		"main = { a: { b: many u8; }; c: u8; };":                                   {api.ErrPrefix, ""},
		"a = many u8; main = { x: a; y: u8; };":                                    {api.ErrPrefix, ""},
		"a = many u8; b = { x: u8; y: a; }; main = { x: b; y: u8; };":              {api.ErrPrefix, ""},
		"main = { n: u8; s: switch n { 0: u8; 1: many u8; }; t: u8; };":            {api.ErrPrefix, ""},
		"main = { n: u8; s: switch n { 0: u8; else: many u8; }; t: u8; };":         {api.ErrPrefix, ""},
		"main = { a: oneof { { b: u8; c: many u8; } }; d: u8; };":                  {api.ErrPrefix, ""},
		"main = { a: chain { last { b: u8; c: many u8; } }; d: u8; };":             {api.ErrPrefix, ""},
		"main = within[3] { a: many u8; b: u8; };":                                 {api.ErrPrefix, "{ a: many u8; b: u8; }"},
		"main = { a: { b: many u8; c: u8; }; d: u8; };":                            {api.ErrPrefix, "{ b: many u8; c: u8; }"},
		"a = { x: many u8; y: u8; }; main = u8;":                                   {api.ErrPrefix, "{ x: many u8; y: u8; }"}, // though it isn't needed
		"main = { a: u8; b: { c: many u8; d: u8; }; e: many u8; f: many empty; };": {api.ErrPrefix, "{ c: many u8; d: u8; }"},
	})
}

func TestRefusedRepeats(t *testing.T) {
	wantRefused(t, map[string]refusal{
		"main = many bytes[0];":                                     {api.ErrEmpty, ""},
		"main = many empty;":                                        {api.ErrEmpty, ""},
		"main = times[2] empty;":                                    {api.ErrEmpty, ""},
		"main = times[0] empty;":                                    {api.ErrEmpty, ""},
		"main = many many u8;":                                      {api.ErrEmpty, ""}, // and it goes on, too
		"main = times[2] many u8;":                                  {api.ErrEmpty, ""},
		"main = many times[0] u8;":                                  {api.ErrEmpty, ""},
		"main = many within[0] u8;":                                 {api.ErrEmpty, ""},
		"main = many { a: empty; b: bytes[0]; };":                   {api.ErrEmpty, ""},
		"a = empty; main = many a;":                                 {api.ErrEmpty, ""},
		"main = { n: u8; m: many bytes[n]; };":                      {api.ErrEmpty, "many bytes[n]"},
		"main = { n: u8; m: times[n] times[n] u8; };":               {api.ErrEmpty, "times[n] times[n] u8"},
		"main = { n: u8; m: many within[2*n] u8; };":                {api.ErrEmpty, "many within[2*n] u8"},
		"main = { n: u8; m: many switch n { 0: u8; 1: empty; }; };": {api.ErrEmpty, "many switch n { 0: u8; 1: empty; }"},
		"main = many { a: u8; b: many u8; };":                       {api.ErrPrefix, ""},
		"main = times[1] { a: u8; b: many u8; };":                   {api.ErrPrefix, ""},
		"main = many oneof { u8 0..9 | { a: /a/; b: many u8; } };":  {api.ErrPrefix, ""},
		"main = times[3] chain { last { a: /a/; b: many u8; } };":   {api.ErrPrefix, ""},
		"a = { x: u8; y: many u8; }; main = times[3] a;":            {api.ErrPrefix, ""},
	})
}

func TestRefusedSwitches(t *testing.T) {
	wantRefused(t, map[string]refusal{
		"main = { n: u8; s: switch n % 2 { 2: u8; }; };":                        {api.ErrRange, "switch n % 2 { 2: u8; }"},
		"main = { n: u8; s: switch n % 2 { 18446744073709551615: u8; }; };":     {api.ErrRange, "switch n % 2 { 18446744073709551615: u8; }"},
		"main = { n: u8; s: switch n % 1 { 0: u8; 1: u16be; }; };":              {api.ErrRange, "switch n % 1 { 0: u8; 1: u16be; }"},
		"main = { n: u8; s: switch n { 0: u8; 0: u16be; }; };":                  {api.ErrTwice, "switch n { 0: u8; 0: u16be; }"},
		"main = { n: u8; s: switch n { 3: u8; 1: empty; 2: empty; 1: u8; }; };": {api.ErrTwice, "switch n { 3: u8; 1: empty; 2: empty; 1: u8; }"},
		"main = { n: u8; s: switch n % 2 { 1: u8; 1: empty; 3: u8; }; };":       {api.ErrTwice, "switch n % 2 { 1: u8; 1: empty; 3: u8; }"}, // case by case
		"main = { n: u8; s: switch n % 2 { 1: u8; 3: empty; 1: u8; }; };":       {api.ErrRange, "switch n % 2 { 1: u8; 3: empty; 1: u8; }"},
		"main = { n: u8; s: switch n % 2 { 3: u8; 3: empty; }; };":              {api.ErrRange, "switch n % 2 { 3: u8; 3: empty; }"},
		"main = { n: u8; s: switch n { 0: /(/; 0: u8; }; };":                    {api.ErrTwice, "switch n { 0: /(/; 0: u8; }"}, // ahead of its parts
		"main = { n: u8; s: switch n { 0: /(/; else: many empty; }; };":         {api.ErrForm, "/(/"},
		"main = { n: u8; s: switch n { 0: u8; else: many empty; }; };":          {api.ErrEmpty, "many empty"},
	})
}

func TestRefusedChoices(t *testing.T) {
	wantRefused(t, map[string]refusal{
		"main = oneof { u8 0..9 | varint 9..9 };":                                {api.ErrClash, ""},
		"main = oneof { u8 | u8 };":                                              {api.ErrClash, ""},
		"main = oneof { u8 0..9 | /a/ | /[^b]/ };":                               {api.ErrClash, ""},
		"main = oneof { /ab/ | /ac/ };":                                          {api.ErrClash, ""},
		"main = oneof { u16be 0..255 | u16be 255..256 };":                        {api.ErrClash, ""},
		"main = oneof { u16le 0..255 | u16be 0..255 };":                          {api.ErrClash, ""},
		"main = oneof { u8 0..127 | varint lenient 0..3 | u8 131..131 };":        {api.ErrClash, ""},
		"main = oneof { empty };":                                                {api.ErrEmpty, ""},
		"main = oneof { u8 | many u8 };":                                         {api.ErrEmpty, ""}, // ahead of ErrClash
		"main = oneof { u8 0..9 | bytes[0] | /(/ };":                             {api.ErrEmpty, ""},
		"main = oneof { u8 0..9 | u8 9..10 | empty };":                           {api.ErrClash, ""},
		"main = oneof { u8 0..9 | u8 9..10 | /(/ };":                             {api.ErrClash, ""}, // as soon as both are known
		"main = oneof { u8 0..9 | /(/ | u8 9..10 };":                             {api.ErrForm, "/(/"},
		"main = oneof { { a: empty; b: /a/; } | { a: within[0] u8; b: /b/; } };": {api.ErrClash, ""},
		"a = /a/; b = /[a-c]/; main = oneof { a | b };":                          {api.ErrClash, ""},
		"a = many u8; main = oneof { a };":                                       {api.ErrEmpty, ""},
		"main = { n: u8; s: oneof { switch n { 0: u8; 1: empty; } }; };":         {api.ErrEmpty, "oneof { switch n { 0: u8; 1: empty; } }"},
		"main = { n: u8; s: oneof { switch n { 0: /a/; 1: /b/; } | /b/ }; };":    {api.ErrClash, "oneof { switch n { 0: /a/; 1: /b/; } | /b/ }"},
		"main = { n: u8; s: oneof { switch n { 0: /a/; else: /b/; } | /b/ }; };": {api.ErrClash, "oneof { switch n { 0: /a/; else: /b/; } | /b/ }"},
	})
}

func TestRefusedChains(t *testing.T) {
	wantRefused(t, map[string]refusal{
		"main = chain { u8 };":                                            {api.ErrForm, ""},
		"main = chain { u8 0..9 | /a/ };":                                 {api.ErrForm, ""},
		"main = chain { u8 0..9 | u8 };":                                  {api.ErrClash, ""}, // behind all others
		"main = chain { empty };":                                         {api.ErrEmpty, ""},
		"main = chain { many empty };":                                    {api.ErrEmpty, "many empty"},
		"main = chain { last empty };":                                    {api.ErrEmpty, ""},
		"main = chain { last u8 0..9 | u8 9..9 };":                        {api.ErrClash, ""},
		"main = chain { { a: u8 0..9; b: many u8; } | last /a/ };":        {api.ErrPrefix, ""},
		"main = chain { last /a/ | { a: u8 0..9; b: many u8; } };":        {api.ErrPrefix, ""},
		"main = chain { { a: u8 0..9; b: many u8; } };":                   {api.ErrPrefix, ""},
		"main = chain { last /a/ | { a: u8; b: many u8; } };":             {api.ErrClash, ""},
		"main = chain { many u8 | last /a/ };":                            {api.ErrEmpty, ""},
		"main = chain { { a: u8 0..9; b: many u8; } | /(/ };":             {api.ErrPrefix, ""},
		"main = chain { u8 0..9 | /(/ };":                                 {api.ErrForm, "/(/"},
		"a = { x: /a/; y: many u8; }; main = chain { a | last u8 0..9 };": {api.ErrPrefix, ""},
	})
}

func TestWhatIsToldFirst(t *testing.T) {
	wantRefused(t, map[string]refusal{
		"a = many empty; b = /(/; main = chain { u8 };":     {api.ErrEmpty, "many empty"}, // name by name
		"b = /(/; a = many empty; main = chain { u8 };":     {api.ErrForm, "/(/"},
		"a = u8; main = chain { u8 }; b = /(/;":             {api.ErrForm, "chain { u8 }"},
		"main = many many empty;":                           {api.ErrEmpty, "many empty"}, // behind its parts
		"main = many { a: many u8; b: bytes[0]; };":         {api.ErrPrefix, "{ a: many u8; b: bytes[0]; }"},
		"main = { a: many u8; b: /(/; };":                   {api.ErrPrefix, ""}, // as soon as it is known
		"main = { a: /(/; b: many u8; c: u8; };":            {api.ErrForm, "/(/"},
		"main = { a: u8; b: /a*/; c: /(/; };":               {api.ErrEmpty, "/a*/"},
		"main = { a: u8; b: /(/; c: bytes[x]; };":           {api.ErrReg, "bytes[x]"}, // layer 15's
		"main = { a: /(/; a: u8; };":                        {api.ErrTwice, ""},       // layer 14's
		"main = { a: /(/; n: u8 = size(d); d: bytes[3]; };": {api.ErrDerive, ""},
	})
	wantCheck(t, api.Spec{}, api.Fault{Code: api.ErrLong})
	wantCheck(t, sample.Nested(201), api.Fault{Code: api.ErrDeep, At: 200})
	wantCheck(t, sample.Nested(200), api.Fault{Code: api.ErrEmpty, At: 1})
}

// spoilt: a specification of which a part is another one.
func spoilt(m *sample.Maker, s api.Spec) api.Spec {
	s = spec.Clone(s)
	var changes []func()
	for at := range s.Nodes {
		n := &s.Nodes[at]
		switch n.Kind {
		case api.Fixed, api.Varint:
			most := spec.Most(*n)
			changes = append(changes, func() { n.Min, n.Max = 0, most }, func() { n.Min = 0 }, func() { n.Max = n.Min + (most-n.Min)/2 })
		case api.Token:
			list := []string{"(", "a*", "a+b", "a|ab", ".", "x[0-9];", "[0-9]{2}", "(a{255}){255}", "[]", "a{999}"}
			changes = append(changes, func() { n.Text = list[m.UpTo(len(list))] })
		case api.Blob:
			changes = append(changes, func() { n.Expr.Add = uint64(m.UpTo(2)) })
		case api.Times, api.Within:
			many := api.Node{Kind: api.Many, Kids: n.Kids}
			changes = append(changes, func() { n.Expr.Add = uint64(m.UpTo(2)) }, func() { *n = many }, func() { n.Kind = api.Times + api.Within - n.Kind })
		case api.Switch:
			one, other := &n.Cases[m.UpTo(len(n.Cases))], n.Cases[m.UpTo(len(n.Cases))]
			twice := func() { one.Value = other.Value }
			changes = append(changes, func() { one.Value = uint64(m.UpTo(4)) }, func() { n.Mod = uint64(m.UpTo(4)) }, twice, twice, twice)
		case api.Chain:
			last := &n.Last[m.UpTo(len(n.Last))]
			changes = append(changes, func() { *last = !*last }, func() { *last = false }, func() { *last = false })
		case api.Empty:
			changes = append(changes, func() { n.Kind, n.Width, n.Max = api.Fixed, 1, 255 })
		}
		if len(spec.Kids(*n)) == 0 {
			changes = append(changes, func() { *n = api.Node{Kind: api.Empty} })
		}
	}
	if len(changes) > 0 {
		changes[m.UpTo(len(changes))]()
	}
	return s
}

func TestCheckOfSamples(t *testing.T) {
	m := &sample.Maker{Seed: 19}
	met := map[api.Errno]int{}
	for range 2000 {
		s := m.Shuffled(m.Accepted(1 + m.UpTo(4)))
		if len(s.Nodes) > 120 {
			continue
		}
		if f := first.Check(s); f != (api.Fault{}) {
			t.Fatalf("%s: %v", show.Text(s), f)
		}
		for range m.UpTo(6) {
			s = spoilt(m, s)
		}
		kept := spec.Clone(s)
		f, want := first.Check(s), check(s)
		if f != want {
			t.Fatalf("%s (%+v): %v, want %v", show.Text(s), s, f, want)
		}
		list, g := first.Infos(s)
		autos, h := first.Autos(s)
		if g != want || h != want || want.Code == api.OK && !slices.Equal(list, infos(s)) || want.Code != api.OK && (list != nil || autos != nil) {
			t.Fatalf("%s: Infos %v, %v, Autos %v, %v", show.Text(s), list, g, autos, h)
		}
		if !reflect.DeepEqual(s, kept) {
			t.Fatalf("what was handed in was changed: %+v", s)
		}
		met[f.Code]++
	}
	for _, code := range []api.Errno{api.OK, api.ErrRange, api.ErrTwice, api.ErrForm, api.ErrStates, api.ErrEmpty, api.ErrClash, api.ErrPrefix} {
		if met[code] < 10 {
			t.Errorf("met: %v", met)
		}
	}
}

// P16.4

func TestInfosOfOtherNames(t *testing.T) {
	s := read(t, "a = u8 1..1; b = u8 2..2; main = oneof { b | a };") // what isn't needed is known, too
	list, f := first.Infos(s)
	want := []first.Info{info(class.Of(1), false, false), info(class.Of(2), false, false), info(class.Of(2), false, false), info(class.Of(1), false, false), info(class.Of(1, 2), false, false)}
	if f != (api.Fault{}) || !slices.Equal(list, want) {
		t.Errorf("%v, %v", list, f)
	}
}

func TestAutos(t *testing.T) {
	s := read(t, "a = /x[0-9];/; b = u8; main = { p: a; q: oneof { /a*b/ | u8 0..0 }; r: /x[0-9];/; };")
	autos, f := first.Autos(s)
	if f != (api.Fault{}) || len(autos) != 3 {
		t.Fatalf("%v, %v", autos, f)
	}
	for at, n := range s.Nodes {
		a, ok := autos[at]
		if n.Kind != api.Token {
			if ok {
				t.Errorf("%d has an automaton", at)
			}
			continue
		}
		want, e := automaton(n.Text)
		if e != api.OK || !dfa.Same(a, want) {
			t.Errorf("%s: %v", n.Text, a)
		}
	}
	none, f := first.Autos(read(t, "main = u8;"))
	if f != (api.Fault{}) || len(none) != 0 {
		t.Errorf("%v, %v", none, f)
	}
}

func TestPick(t *testing.T) {
	for _, text := range []string{
		"main = oneof { /[a-c]x/ | u8 0..9 | varint 300..300 };",
		"main = chain { /[a-c]x/ | u8 0..9 | last varint 300..300 };",
	} {
		s := read(t, text)
		infos, _ := first.Infos(s)
		n := s.Nodes[spec.Root(s)]
		for c := range 256 {
			want := -1
			switch {
			case 'a' <= c && c <= 'c':
				want = 0
			case c <= 9:
				want = 1
			case c == 172:
				want = 2
			}
			if got := first.Pick(n, infos, byte(c)); got != want {
				t.Errorf("%s: Pick of %d: %d, want %d", text, c, got, want)
			}
		}
	}
	s := read(t, "main = { n: u8; s: switch n { 0: u8; }; t: times[2] u8; };")
	infos, _ := first.Infos(s)
	for at, n := range s.Nodes {
		if got := first.Pick(n, infos, 0); got != -1 {
			t.Errorf("Pick of %s: %d", show.Kind(s, at), got)
		}
	}
}

func TestPickOfSamples(t *testing.T) {
	m := &sample.Maker{Seed: 20}
	met := 0
	for range 500 {
		s := m.Shuffled(m.Accepted(3))
		infos, _ := first.Infos(s)
		for _, n := range s.Nodes {
			if n.Kind != api.Choice && n.Kind != api.Chain {
				continue
			}
			met++
			for c := range 256 {
				got := first.Pick(n, infos, byte(c))
				for i, kid := range n.Kids {
					if infos[kid].First.Has(byte(c)) != (i == got) { // of those that are accepted one at most
						t.Fatalf("%v: Pick of %d: %d", n, c, got)
					}
				}
			}
		}
	}
	if met < 100 {
		t.Errorf("only %d", met)
	}
}

func TestPickOfRawOnes(t *testing.T) {
	all := []first.Info{info(class.All(), false, false), info(class.Of(1), false, false)}
	for _, w := range []struct {
		n    api.Node
		want int
	}{
		{api.Node{Kind: api.Choice, Kids: []int{-1, 2, math.MaxInt, math.MinInt, 1, 0}}, 4},
		{api.Node{Kind: api.Chain, Kids: []int{0, 0}}, 0},
		{api.Node{Kind: api.Chain, Kids: []int{-1}, Last: []bool{true, true}}, -1},
		{api.Node{Kind: api.Choice}, -1},
		{api.Node{Kind: api.Many, Kids: []int{0}}, -1},
		{api.Node{Kind: api.Times, Kids: []int{0}}, -1},
		{api.Node{Kind: 0, Kids: []int{0}}, -1},
		{api.Node{Kind: math.MaxInt, Kids: []int{0}}, -1},
	} {
		if got := first.Pick(w.n, all, 1); got != w.want {
			t.Errorf("Pick of %v: %d, want %d", w.n, got, w.want)
		}
		if got := first.Pick(w.n, nil, 1); got != -1 {
			t.Errorf("Pick of %v without anything known: %d", w.n, got)
		}
	}
}

// P1, P2

func TestRawOnes(t *testing.T) {
	for _, s := range sample.Wrongs() {
		kept := spec.Clone(s)
		f := reg.Check(s)
		if got := first.Check(s); f.Code != api.OK && got != f { // layer 15's fault
			t.Errorf("Check of %+v: %v, want %v", s, got, f)
		}
		infos, g := first.Infos(s)
		autos, h := first.Autos(s)
		if f.Code != api.OK && (infos != nil || g != f || autos != nil || h != f) {
			t.Errorf("of %+v: %v, %v, %v, %v", s, infos, g, autos, h)
		}
		for _, n := range s.Nodes {
			first.Pick(n, infos, 7)
			first.Fixed(n)
			first.Varint(n)
		}
		if !reflect.DeepEqual(s, kept) {
			t.Errorf("what was handed in was changed: %+v", s)
		}
	}
}

// What is answered is new memory, and no two automata share any.
func TestAnswersAreTheirOwn(t *testing.T) {
	s := read(t, "main = { a: /x[0-9];/; b: /x[0-9];/; c: u8; };")
	list, _ := first.Infos(s)
	want := slices.Clone(list)
	for i := range list[:cap(list)] {
		list[:cap(list)][i] = info(class.All(), true, true)
	}
	if again, _ := first.Infos(s); !slices.Equal(again, want) {
		t.Errorf("Infos: %v", again)
	}
	autos, _ := first.Autos(s)
	right, _ := automaton("x[0-9];")
	if autos[0] == autos[1] || !dfa.Same(autos[1], right) {
		t.Error("two Tokens have one automaton")
	}
	for _, row := range autos[0].Next {
		clear(row)
	}
	clear(autos[0].Accept)
	if !dfa.Same(autos[1], right) {
		t.Error("two Tokens' automata share memory")
	}
	clear(autos)
	if again, _ := first.Autos(s); len(again) != 2 || !dfa.Same(again[0], right) || !dfa.Same(again[1], right) {
		t.Errorf("Autos: %v", again)
	}
}

func TestExamples(t *testing.T) {
	s := read(t, "main = oneof { u8 0..9 | /x[0-9];/ };")
	if list, f := first.Infos(s); f != (api.Fault{}) || list[spec.Root(s)].First.Len() != 11 {
		t.Errorf("%v, %v", list, f)
	}
	wantCheck(t, read(t, "main = many bytes[0];"), api.Fault{Code: api.ErrEmpty, At: 1})
	wantCheck(t, read(t, "main = oneof { u8 0..9 | varint 9..9 };"), api.Fault{Code: api.ErrClash, At: 2})
}
