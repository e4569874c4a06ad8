package regex_test

import (
	"math"
	"testing"

	"guipure/api"
	"guipure/class"
	"guipure/regex"
)

// Expressions, put together shortly.

func nothing() api.Regex { return api.Regex{Kind: api.Nothing} }

func one(s class.Set) api.Regex { return api.Regex{Kind: api.One, Set: s} }

// bytesOf: a One of some bytes.
func bytesOf(list string) api.Regex { return one(class.Of([]byte(list)...)) }

func cat(kids ...api.Regex) api.Regex { return api.Regex{Kind: api.Cat, Kids: kids} }

func alt(kids ...api.Regex) api.Regex { return api.Regex{Kind: api.Alt, Kids: kids} }

func repeat(kid api.Regex, low, high int) api.Regex {
	return api.Regex{Kind: api.Repeat, Kids: []api.Regex{kid}, Min: low, Max: high}
}

// many: an expression so often, as Kids.
func many(n int, kid api.Regex) []api.Regex {
	out := make([]api.Regex, n)
	for i := range out {
		out[i] = kid
	}
	return out
}

// nested: Nothing, repeated by so many, one within another one.
func nested(n int) api.Regex {
	out := nothing()
	for range n {
		out = repeat(out, 0, 1)
	}
	return out
}

// endless is an expression that holds itself.
func endless() api.Regex {
	kids := make([]api.Regex, 2)
	kids[0], kids[1] = cat(kids...), cat(kids...)
	return kids[0]
}

// maker makes expressions that may be, of all sorts, as a seed tells.
type maker struct{ seed uint32 }

// upTo: a number from 0 to less than n.
func (m *maker) upTo(n int) int {
	m.seed = m.seed*1664525 + 1013904223
	return int(m.seed>>16) % n
}

func (m *maker) make(deep int) api.Regex {
	kind := m.upTo(6)
	if deep == 0 {
		kind = m.upTo(2)
	}
	switch kind {
	case 0:
		return nothing()
	case 1, 2:
		return one(m.set())
	case 3:
		low := m.upTo(4)
		return repeat(m.make(deep-1), low, max(low, 1)+m.upTo(3))
	case 4:
		return repeat(m.make(deep-1), m.upTo(4), -1-m.upTo(3))
	}
	var kids []api.Regex
	for range 2 + m.upTo(3) {
		kids = append(kids, m.make(deep-1))
	}
	return api.Regex{Kind: api.Cat + m.upTo(2), Kids: kids}
}

func (m *maker) set() class.Set {
	s := class.Of(byte(m.upTo(256)))
	for range m.upTo(4) {
		from := m.upTo(256)
		s = s.Or(class.Range(byte(from), byte(min(from+m.upTo(40), 255))))
	}
	if m.upTo(4) == 0 {
		s = s.Not()
	}
	return s
}

// expressions: many that may be.
func expressions() []api.Regex {
	m := maker{seed: 11}
	var out []api.Regex
	for i := range 400 {
		if n := m.make(i % 5); regex.Check(n) == api.OK {
			out = append(out, n)
		}
	}
	return out
}

// P6.3: Check

func TestCheck(t *testing.T) {
	a := bytesOf("a")
	wants := []struct {
		what string
		n    api.Regex
		e    api.Errno
	}{
		{"Nothing", nothing(), api.OK},
		{"a One", a, api.OK},
		{"a One of all", one(class.All()), api.OK},
		{"a Cat", cat(a, nothing()), api.OK},
		{"an Alt", alt(a, a, a), api.OK},
		{"a Repeat", repeat(a, 0, -1), api.OK},
		{"a Repeat up to none", repeat(a, 0, 0), api.OK},
		{"a Repeat, Max far below 0", repeat(a, 256, math.MinInt), api.OK},
		{"a Repeat, Min and Max the greatest", repeat(a, 256, 256), api.OK},
		{"fields that mean nothing", api.Regex{Kind: api.Nothing, Set: class.All(), Min: -5, Max: 999}, api.OK},
		{"fields that mean nothing, of a One", api.Regex{Kind: api.One, Set: class.All(), Min: -5, Max: 999}, api.OK},
		{"a Cat of no set", api.Regex{Kind: api.Cat, Kids: many(2, a), Min: -1, Max: -9}, api.OK},

		{"no kind", api.Regex{}, api.ErrForm},
		{"a kind below", api.Regex{Kind: -1}, api.ErrForm},
		{"a kind above", api.Regex{Kind: api.Repeat + 1, Set: class.All(), Kids: many(1, a)}, api.ErrForm},
		{"Nothing with a Kid", api.Regex{Kind: api.Nothing, Kids: many(1, a)}, api.ErrForm},
		{"a One with a Kid", api.Regex{Kind: api.One, Set: class.All(), Kids: many(1, a)}, api.ErrForm},
		{"a One with a Kid, without bytes", api.Regex{Kind: api.One, Kids: many(1, a)}, api.ErrForm},
		{"a Cat of none", cat(), api.ErrForm},
		{"a Cat of one", cat(a), api.ErrForm},
		{"an Alt of none", alt(), api.ErrForm},
		{"an Alt of one", alt(a), api.ErrForm},
		{"a Repeat of none", api.Regex{Kind: api.Repeat}, api.ErrForm},
		{"a Repeat of two", api.Regex{Kind: api.Repeat, Kids: many(2, a), Min: -1}, api.ErrForm},

		{"a One without bytes", one(class.Set{}), api.ErrEmpty},

		{"Min below 0", repeat(a, -1, 5), api.ErrRange},
		{"Min below 0, no Max", repeat(a, -1, -1), api.ErrRange},
		{"Min too great", repeat(a, 257, -1), api.ErrRange},
		{"Max too great", repeat(a, 0, 257), api.ErrRange},
		{"Max less than Min", repeat(a, 3, 2), api.ErrRange},
		{"Max 0, less than Min", repeat(a, 1, 0), api.ErrRange},
		{"both the greatest there are", repeat(a, math.MaxInt, math.MaxInt), api.ErrRange},
	}
	for _, w := range wants {
		if e := regex.Check(w.n); e != w.e {
			t.Errorf("%s: %v, want %v", w.what, e, w.e)
		}
		if e := regex.Check(repeat(alt(a, cat(a, w.n)), 0, 1)); e != w.e {
			t.Errorf("%s, deep within: %v, want %v", w.what, e, w.e)
		}
	}
}

// From the front on, an expression ahead of its Kids.
func TestCheckTellsTheFirst(t *testing.T) {
	empty, none, wrong := one(class.Set{}), api.Regex{}, repeat(bytesOf("a"), 2, 1)
	wants := []struct {
		n api.Regex
		e api.Errno
	}{
		{cat(empty, none), api.ErrEmpty},
		{cat(none, empty), api.ErrForm},
		{alt(wrong, empty, none), api.ErrRange},
		{cat(cat(nothing(), empty), none), api.ErrEmpty},
		{cat(empty), api.ErrForm},
		{repeat(empty, 2, 1), api.ErrRange},
		{repeat(empty, 1, 2), api.ErrEmpty},
		{cat(append([]api.Regex{empty}, many(600, nothing())...)...), api.ErrEmpty},
		{cat(append(many(511, nothing()), empty)...), api.ErrLong},
		{cat(append(many(510, nothing()), empty)...), api.ErrEmpty},
	}
	for i, w := range wants {
		if e := regex.Check(w.n); e != w.e {
			t.Errorf("%d: %v, want %v", i, e, w.e)
		}
	}
}

func TestCheckCounts(t *testing.T) {
	wants := []struct {
		what string
		n    api.Regex
		e    api.Errno
	}{
		{"511 Kids", alt(many(511, nothing())...), api.OK},
		{"512 Kids", alt(many(512, nothing())...), api.ErrLong},
		{"511 Repeats", nested(511), api.OK},
		{"512 Repeats", nested(512), api.ErrLong},
		{"60000 Repeats", nested(60000), api.ErrLong},
		{"170 threes and one Cat", cat(many(170, cat(many(2, nothing())...))...), api.OK},
		{"171 threes and one Cat", cat(many(171, cat(many(2, nothing())...))...), api.ErrLong},
		{"one that holds itself", endless(), api.ErrLong},
	}
	for _, w := range wants {
		if e := regex.Check(w.n); e != w.e {
			t.Errorf("%s: %v, want %v", w.what, e, w.e)
		}
	}
}

// P6.3: Same

func TestSameOfAll(t *testing.T) {
	a, b := bytesOf("a"), bytesOf("b")
	all := []api.Regex{
		nothing(), a, b, bytesOf("ab"),
		cat(a, b), cat(b, a), cat(a, b, b), cat(a, cat(b, b)), cat(cat(a, b), b), cat(a, nothing()),
		alt(a, b), alt(b, a), alt(a, b, b),
		repeat(a, 0, -1), repeat(b, 0, -1), repeat(a, 1, -1), repeat(a, 0, 1), repeat(a, 0, 0), repeat(a, 1, 1), repeat(cat(a, b), 0, -1),
		repeat(repeat(a, 0, -1), 0, -1),
	}
	for i, m := range all {
		for j, n := range all {
			if regex.Same(m, n) != (i == j) {
				t.Errorf("Same of %s and %s: %t", regex.Text(m), regex.Text(n), i != j)
			}
			if regex.Same(cat(nothing(), m), cat(nothing(), n)) != (i == j) {
				t.Errorf("Same of %s and %s, within a Cat: %t", regex.Text(m), regex.Text(n), i != j)
			}
		}
	}
}

func TestSameOfWhatKindsHave(t *testing.T) {
	a, b := bytesOf("a"), bytesOf("b")
	alike := [][2]api.Regex{
		{repeat(a, 2, -1), repeat(a, 2, -2)},
		{repeat(a, 2, math.MinInt), repeat(a, 2, -1)},
		{{Kind: api.Nothing, Set: class.All(), Min: 1, Max: 2}, nothing()},
		{{Kind: api.One, Set: a.Set, Min: 1, Max: 2}, a},
		{{Kind: api.Cat, Set: class.All(), Kids: []api.Regex{a, b}, Min: 1, Max: 2}, cat(a, b)},
		{{Kind: api.Repeat, Set: class.All(), Kids: []api.Regex{a}, Min: 1, Max: 2}, repeat(a, 1, 2)},
		{{Kind: api.Nothing, Kids: []api.Regex{}}, nothing()},
	}
	for i, pair := range alike {
		if !regex.Same(pair[0], pair[1]) || !regex.Same(pair[1], pair[0]) {
			t.Errorf("%d: they aren't the same", i)
		}
	}
	for i, n := range []api.Regex{repeat(a, 2, 0), repeat(a, 2, 5), repeat(a, 1, -1), repeat(b, 2, -1)} {
		if regex.Same(n, repeat(a, 2, -1)) || regex.Same(repeat(a, 2, -1), n) {
			t.Errorf("%d: they are the same", i)
		}
	}
	if !regex.Same(nested(60000), nested(60000)) || regex.Same(nested(60000), nested(59999)) {
		t.Error("of many, one within another one")
	}
}

// P6.2

func TestText(t *testing.T) {
	a, b, c := bytesOf("a"), bytesOf("b"), bytesOf("c")
	wants := []struct {
		n    api.Regex
		text string
	}{
		{nothing(), ""},
		{a, "a"},
		{one(class.All()), "."},
		{one(class.Range('0', '9')), "[0-9]"},
		{bytesOf(" "), `\x20`},
		{bytesOf("."), `\x2e`},
		{bytesOf("^-"), `[\x2d\x5e]`},
		{cat(a, b, c), "abc"},
		{alt(a, b, c), "a|b|c"},
		{alt(nothing(), nothing()), "|"},
		{alt(a, nothing(), b), "a||b"},

		{repeat(a, 0, -1), "a*"},
		{repeat(a, 1, -1), "a+"},
		{repeat(a, 0, 1), "a?"},
		{repeat(a, 2, -1), "a{2,}"},
		{repeat(a, 256, -7), "a{256,}"},
		{repeat(a, 0, 0), "a{0}"},
		{repeat(a, 1, 1), "a{1}"},
		{repeat(a, 256, 256), "a{256}"},
		{repeat(a, 0, 2), "a{0,2}"},
		{repeat(a, 1, 2), "a{1,2}"},
		{repeat(a, 10, 100), "a{10,100}"},

		{cat(a, cat(b, c)), "a(bc)"},
		{cat(cat(a, b), c), "(ab)c"},
		{cat(a, alt(b, c)), "a(b|c)"},
		{cat(a, nothing(), b), "a()b"},
		{cat(repeat(a, 0, 1), b), "a?b"},
		{repeat(cat(a, b), 0, 1), "(ab)?"},
		{repeat(alt(a, b), 0, 1), "(a|b)?"},
		{repeat(nothing(), 0, 1), "()?"},
		{repeat(repeat(a, 0, 1), 2, 3), "a?{2,3}"},
		{alt(cat(a, b), c), "ab|c"},
		{alt(a, alt(b, c)), "a|(b|c)"},
		{alt(repeat(a, 0, 1), c), "a?|c"},
		{repeat(cat(a, alt(nothing(), repeat(cat(b, nothing()), 3, -1))), 0, -1), "(a(|(b()){3,}))*"},
	}
	for _, w := range wants {
		if got := regex.Text(w.n); got != w.text {
			t.Errorf("Text: %s, want %s", got, w.text)
		}
		if n, f := regex.Parse(w.text); f != (api.Fault{}) || !regex.Same(n, w.n) {
			t.Errorf("Parse of %s: %s %v", w.text, regex.Text(n), f)
		}
	}
}

// Of what may not be nothing is promised, but that the call ends.
func TestTextEnds(t *testing.T) {
	for _, n := range []api.Regex{{}, one(class.Set{}), repeat(bytesOf("a"), -5, math.MaxInt), {Kind: api.Repeat}, {Kind: 99, Kids: many(3, nothing())}, endless(), nested(60000)} {
		regex.Text(n)
	}
}

func TestTextIsReadAsItWas(t *testing.T) {
	read := 0
	for _, want := range expressions() {
		text := regex.Text(want)
		n, f := regex.Parse(text)
		if len(text) > regex.MaxText {
			if f != (api.Fault{Code: api.ErrLong}) {
				t.Errorf("Parse of %d bytes: %v", len(text), f)
			}
			continue
		}
		if f != (api.Fault{}) || !regex.Same(n, want) || regex.Check(n) != api.OK || regex.Text(n) != text {
			t.Errorf("%s: %s %v", text, regex.Text(n), f)
		}
		read++
	}
	if read < 200 {
		t.Errorf("the test read %d expressions alone", read)
	}
}

// Rule 4: an expression that is handed in stays as it was.
func TestExpressionsStay(t *testing.T) {
	kids := append(many(2, bytesOf("a")), nothing(), nothing())
	n := cat(kids[:2]...)
	regex.Text(n)
	regex.Check(n)
	regex.Same(n, n)
	for i, want := range []api.Regex{bytesOf("a"), bytesOf("a"), nothing(), nothing()} {
		if !regex.Same(kids[i], want) {
			t.Errorf("Kid %d: %s", i, regex.Text(kids[i]))
		}
	}
}
