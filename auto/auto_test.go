package auto_test

import (
	"slices"
	"strings"
	"testing"

	"guipure/api"
	"guipure/auto"
	"guipure/class"
	"guipure/dfa"
	"guipure/nfa"
	"guipure/regex"
	"guipure/sample"
)

// of: the least automaton of a text.
func of(t *testing.T, text string) *dfa.Auto {
	t.Helper()
	n, f := regex.Parse(text)
	a, e := dfa.Of(n)
	if f.Code != api.OK || e != api.OK {
		t.Fatalf("%q: %v, %v", text, f, e)
	}
	return a
}

// nothing: an automaton that stands for nothing.
func nothing(t *testing.T) *dfa.Auto {
	t.Helper()
	return product(t, of(t, "a"), of(t, "."), auto.Less)
}

// trial is an expression, and its automata: one as it comes, and the least one.
type trial struct {
	n    api.Regex
	text string
	all  []*dfa.Auto
}

func trials(t *testing.T) []trial {
	t.Helper()
	var out []trial
	for _, n := range sample.Regexes(300) {
		many, e := nfa.Make(n)
		if e != api.OK || many.Len() >= 200 {
			continue
		}
		a, e := dfa.Make(many)
		if e != api.OK {
			t.Fatalf("Make of %s: %v", regex.Text(n), e)
		}
		out = append(out, trial{n, regex.Text(n), []*dfa.Auto{a, a.Least()}})
	}
	return out
}

// lost: an automaton that stands for `ab`; another state leads to no end, and others, one of which leads to itself, aren't met.
func lost() *dfa.Auto {
	return &dfa.Auto{
		Classes: [256]uint8{'a': 1, 'b': 2},
		Next:    [][]int{{3, 1, 3}, {3, 3, 2}, {3, 3, 3}, {3, 3, dfa.Dead}, {0, 5, 4}, {4, 4, 4}},
		Accept:  []bool{false, false, true, false, true, true},
	}
}

// without: automata without states.
func without() []*dfa.Auto { return []*dfa.Auto{nil, {}} }

// P9.1

// shortest: the shortest bytes that stand for an expression, the least ones, as its parts tell.
func shortest(n api.Regex) string {
	switch n.Kind {
	case api.One:
		c, _ := class.Set(n.Set).First()
		return string([]byte{c})
	case api.Cat:
		out := ""
		for _, kid := range n.Kids {
			out += shortest(kid)
		}
		return out
	case api.Alt:
		var all []string
		for _, kid := range n.Kids {
			all = append(all, shortest(kid))
		}
		return slices.MinFunc(all, func(a, b string) int {
			if len(a) != len(b) {
				return len(a) - len(b)
			}
			return strings.Compare(a, b)
		})
	case api.Repeat:
		return strings.Repeat(shortest(n.Kids[0]), n.Min)
	}
	return ""
}

func TestShortest(t *testing.T) {
	for text, want := range map[string]string{
		"":               "",
		"a":              "a",
		"a+b":            "ab",
		"[b-z]":          "b",
		".":              "\x00",
		"[^\\0-\\xfe]":   "\xff",
		"abc|bc|c":       "c",
		"bx|ca|az|ay":    "ay",
		"ba|ab":          "ab",
		"(b|a)(z|y)":     "ay",
		"a{3,}":          "aaa",
		"x|":             "",
		"[ab]{2}c|aad":   "aac",
		"zz|aaa":         "zz",
		"\\xff\\xff|y.y": "\xff\xff",
		"(\\xff|a)\\0*b": "ab",
	} {
		if got, ok := auto.Shortest(of(t, text)); string(got) != want || !ok {
			t.Errorf("%q: %q, %v, want %q", text, got, ok, want)
		}
	}
	for _, a := range append(without(), nothing(t)) {
		if got, ok := auto.Shortest(a); len(got) > 0 || ok {
			t.Errorf("of nothing: %q, %v", got, ok)
		}
	}
	if got, ok := auto.Shortest(of(t, "(a{255}){4}aaa")); len(got) != 1023 || !ok {
		t.Errorf("of many: %d, %v", len(got), ok)
	}
	if got, ok := auto.Shortest(lost()); string(got) != "ab" || !ok {
		t.Errorf("lost: %q, %v", got, ok)
	}
}

func TestShortestOfAll(t *testing.T) {
	for _, w := range trials(t) {
		for _, a := range w.all {
			if got, ok := auto.Shortest(a); string(got) != shortest(w.n) || !ok || !a.Match(got) {
				t.Errorf("%s: %q, %v, want %q", w.text, got, ok, shortest(w.n))
			}
		}
	}
}

// longest: how many bytes the longest ones have that stand for an expression, as its parts tell; -1: there are ever longer ones.
func longest(n api.Regex) int {
	var kids []int
	for _, kid := range n.Kids {
		kids = append(kids, longest(kid))
	}
	switch {
	case n.Kind == api.Nothing || n.Kind == api.Repeat && (n.Max == 0 || kids[0] == 0):
		return 0
	case n.Kind == api.One:
		return 1
	case slices.Contains(kids, -1) || n.Kind == api.Repeat && n.Max < 0:
		return -1
	case n.Kind == api.Repeat:
		return n.Max * kids[0]
	case n.Kind == api.Alt:
		return slices.Max(kids)
	}
	sum := 0
	for _, many := range kids {
		sum += many
	}
	return sum
}

func TestLongest(t *testing.T) {
	for text, want := range map[string]int{
		"":                   0,
		"()*":                0,
		"a":                  1,
		"a?":                 1,
		".{3}":               3,
		"a{2,7}":             7,
		"abc|d":              3,
		"d|abc|ef":           3,
		"a?b?c?":             3,
		"(ab|c){1,4}d":       9,
		"a*":                 -1,
		"a+b":                -1,
		"ab*c":               -1,
		"abc|(de)*":          -1,
		"(abc|abd){2}|ab":    6,
		"(a{255}){4}aaa":     1023,
		"((a|b)(c|d)){100}e": 201,
		"(a?){250}(b?){250}": 500,
	} {
		if got := auto.Longest(of(t, text)); got != want {
			t.Errorf("%q: %d, want %d", text, got, want)
		}
	}
	for _, a := range append(without(), nothing(t)) {
		if got := auto.Longest(a); got != -1 {
			t.Errorf("of nothing: %d", got)
		}
	}
	if got := auto.Longest(lost()); got != 2 {
		t.Errorf("lost: %d", got)
	}
}

func TestLongestOfAll(t *testing.T) {
	for _, w := range trials(t) {
		for _, a := range w.all {
			if got := auto.Longest(a); got != longest(w.n) {
				t.Errorf("%s: %d, want %d", w.text, got, longest(w.n))
			}
		}
	}
}

func TestEmptyAndNull(t *testing.T) {
	for text, null := range map[string]bool{"": true, "a": false, "a*": true, "a?b?": true, "a|": true, "a?b": false, "()": true, "a{0}": true, "aa*": false} {
		if auto.Empty(of(t, text)) || auto.Null(of(t, text)) != null {
			t.Errorf("%q: Empty %v, Null %v", text, auto.Empty(of(t, text)), auto.Null(of(t, text)))
		}
	}
	for _, a := range append(without(), nothing(t)) {
		if !auto.Empty(a) || auto.Null(a) {
			t.Errorf("of nothing: Empty %v, Null %v", auto.Empty(a), auto.Null(a))
		}
	}
	for _, w := range trials(t) {
		for _, a := range w.all {
			if auto.Empty(a) || auto.Null(a) != (shortest(w.n) == "") {
				t.Errorf("%s: Empty %v, Null %v", w.text, auto.Empty(a), auto.Null(a))
			}
		}
	}
}

// P9.2

// first: the bytes with which something begins that stands for an expression, as its parts tell.
func first(n api.Regex) class.Set {
	var out class.Set
	switch {
	case n.Kind == api.One:
		return n.Set
	case n.Kind == api.Repeat && n.Max == 0:
		return out
	}
	for _, kid := range n.Kids {
		out = out.Or(first(kid))
		if n.Kind == api.Cat && shortest(kid) != "" {
			return out
		}
	}
	return out
}

func TestFirst(t *testing.T) {
	for text, want := range map[string]class.Set{
		"":            {},
		"a":           class.Of('a'),
		"ab|cd":       class.Of('a', 'c'),
		"a?b":         class.Of('a', 'b'),
		"a*b?c+d":     class.Of('a', 'b', 'c'),
		"[^a]":        class.Of('a').Not(),
		".x":          class.All(),
		"[\\0\\xff]*": class.Of(0, 255),
		"()a|":        class.Of('a'),
		"a{0}b":       class.Of('b'),
	} {
		if got := auto.First(of(t, text)); got != want {
			t.Errorf("%q: %s, want %s", text, class.Text(got), class.Text(want))
		}
	}
	for _, a := range append(without(), nothing(t)) {
		if got := auto.First(a); !got.Empty() {
			t.Errorf("of nothing: %s", class.Text(got))
		}
	}
	if got := auto.First(lost()); got != class.Of('a') {
		t.Errorf("lost: %s", class.Text(got))
	}
	for _, w := range trials(t) {
		for _, a := range w.all {
			if got := auto.First(a); got != first(w.n) {
				t.Errorf("%s: %s, want %s", w.text, class.Text(got), class.Text(first(w.n)))
			}
		}
	}
}

func TestPrefix(t *testing.T) {
	for text, want := range map[string]bool{
		"":                true,
		"a":               true,
		"ab|cd":           true,
		"a|ab":            false,
		"a?":              false,
		"a*":              false,
		"a*b":             true,
		"a+":              false,
		"a+b|a":           false,
		"(a|b)*c":         true,
		"[^\\0]*\\0":      true,
		".*a":             false,
		"a{3}":            true,
		"a{3,4}":          false,
		"|a":              false,
		"abc|abd":         true,
		"abc|bc":          true,
		"(a{255}){4}aaa":  true,
		"(a{255}){4}aaa?": false,
	} {
		if got := auto.Prefix(of(t, text)); got != want {
			t.Errorf("%q: %v", text, got)
		}
	}
	for _, a := range append(without(), nothing(t), lost()) {
		if !auto.Prefix(a) {
			t.Error("of nothing, or of one that is lost")
		}
	}
}

// beginsAnother: do some of the rows stand for an expression, one of which begins another one?
func beginsAnother(a *dfa.Auto, rows [][]byte) bool {
	for _, row := range rows {
		for i := range row {
			if a.Match(row) && a.Match(row[:i]) {
				return true
			}
		}
	}
	return false
}

func TestPrefixOfAll(t *testing.T) {
	rows := sample.Rows(4)
	more := api.Regex{Kind: api.Repeat, Min: 1, Max: -1, Kids: []api.Regex{{Kind: api.One, Set: class.All()}}}
	for _, w := range trials(t) {
		longer, e := dfa.Of(api.Regex{Kind: api.Cat, Kids: []api.Regex{w.n, more}})
		if e != api.OK {
			t.Fatalf("%s: %v", w.text, e)
		}
		for _, a := range w.all {
			got := auto.Prefix(a)
			if want := auto.Empty(product(t, a, longer, auto.Both)); got != want || got && beginsAnother(a, rows) {
				t.Errorf("%s: %v", w.text, got)
			}
		}
	}
}

// askAll asks an automaton all that can be asked of one alone.
func askAll(a *dfa.Auto) {
	auto.Shortest(a)
	auto.Longest(a)
	auto.Empty(a)
	auto.Null(a)
	auto.First(a)
	auto.Prefix(a)
}

// P1: of automata that no call answered nothing is promised, but that calls end.
func TestOthersEnd(t *testing.T) {
	list := append(without(),
		lost(),
		&dfa.Auto{Next: [][]int{{}}},
		&dfa.Auto{Next: [][]int{nil, {7, -9}}, Accept: []bool{true, true, true}},
		&dfa.Auto{Classes: [256]uint8{'a': 255}, Next: [][]int{{0}}, Accept: []bool{true}},
		&dfa.Auto{Accept: []bool{true}},
		&dfa.Auto{Next: slices.Repeat([][]int{{1}}, 2000), Accept: make([]bool, 2000)},
	)
	for _, a := range list {
		askAll(a)
		for _, b := range append(list, of(t, "a+b")) {
			auto.Within(a, b)
			auto.Apart(b, a)
			auto.Product(a, b, auto.Either)
		}
	}
}
