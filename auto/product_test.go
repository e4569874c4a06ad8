package auto_test

import (
	"math"
	"slices"
	"testing"

	"guipure/api"
	"guipure/auto"
	"guipure/dfa"
	"guipure/sample"
)

// hows: all ways of putting together.
var hows = []int{auto.Both, auto.Either, auto.Less}

// product: Product of two automata.
func product(t *testing.T, a, b *dfa.Auto, how int) *dfa.Auto {
	t.Helper()
	out, e := auto.Product(a, b, how)
	if e != api.OK || out == nil {
		t.Fatalf("Product: %v", e)
	}
	return out
}

// wanted: does something stand for what is put together, that stands for the first automaton, or the second one?
func wanted(first, second bool, how int) bool {
	return how == auto.Both && first && second || how == auto.Either && (first || second) || how == auto.Less && first && !second
}

// P9.3

func TestProductRefuses(t *testing.T) {
	a := of(t, "a")
	for _, how := range []int{0, -1, 4, 5, math.MaxInt, math.MinInt} {
		for _, b := range append(without(), a) {
			if out, e := auto.Product(b, a, how); out != nil || e != api.ErrRange {
				t.Errorf("of %d: %v, %v", how, out, e)
			}
		}
	}
	for _, how := range hows {
		for _, none := range without() {
			for _, two := range [][2]*dfa.Auto{{none, a}, {a, none}, {none, none}} {
				if out, e := auto.Product(two[0], two[1], how); out != nil || e != api.ErrEmpty {
					t.Errorf("of none, %d: %v, %v", how, out, e)
				}
			}
		}
	}
	if auto.Both != 1 || auto.Either != 2 || auto.Less != 3 {
		t.Error("Both, Either, Less")
	}
}

func TestProductOfTooMany(t *testing.T) {
	wants := []struct {
		a, b string
		how  int
		many int // 0: too many
	}{
		// Pairs of states come again behind so many as both rings' lengths tell.
		{"(a{31})*", "(a{33})*", auto.Both, 1023},
		{"((a{33}){31})*", "(aaa)*", auto.Both, 1023},
		{"((a{33}){31})*", "(aa)*", auto.Both, 0},
		{"(a{25})*", "(a{41})*", auto.Both, 0},
		{"(a{25})*", "(a{41})*", auto.Either, 0},
		{"(a{25})*", "(a{41})*", auto.Less, 0},
		{"((a{33}){31})*", "a*", auto.Less, 1},
		{"a*", "((a{33}){31})*", auto.Less, 1023},
		{"a*", "((a{33}){31})*", auto.Either, 1},
		// Where one of two leads nowhere, just the other one's states are met.
		{"(a{255}){4}", "bbb", auto.Either, 1023},
		{"(a{255}){4}", "b{4}", auto.Either, 0},
		{"(a{255}){4}aaa", "(a{255}){4}aaa", auto.Both, 1024},
		{"(a{255}){4}aaa", "(a{255}){4}aaa", auto.Either, 1024},
		{"(a{255}){4}aaa", "(a{255}){4}aaa", auto.Less, 1},
		{"(a{255}){4}aaa", "b", auto.Less, 1024},
		{"(a{255}){4}aaa", "b", auto.Both, 1},
		{"(a{255}){4}aaa", "b", auto.Either, 0},
		{"b", "(a{255}){4}aaa", auto.Less, 2},
		{"b", "(a{255}){4}aaa", auto.Both, 1},
		{"(a|b)*a(a|b){8}", "(a|b)*b(a|b){8}", auto.Both, 1},
	}
	for _, w := range wants {
		out, e := auto.Product(of(t, w.a), of(t, w.b), w.how)
		if out.Len() != w.many || w.many > 0 && e != api.OK || w.many == 0 && (e != api.ErrStates || out != nil) {
			t.Errorf("%s, %s, %d: %d states, %v, want %d", w.a, w.b, w.how, out.Len(), e, w.many)
		}
	}
}

func TestProduct(t *testing.T) {
	wants := []struct{ a, b, both, either, less string }{
		{"a", "a|b", "a", "[ab]", ""},
		{"a*", "(aa)*", "(aa)*", "a*", "a(aa)*"},
		{"(aa)*", "(aaa)*", "(a{6})*", "(aa)*|(aaa)*", "(a{6})*(aa|aaaa)"},
		{".*", "a*", "a*", ".*", "a*[^a].*"},
		{"[a-m]+", "[h-z]", "[h-m]", "[a-m]+|[n-z]", "[a-m]{2,}|[a-g]"},
		{"a?b", "ab?", "ab", "ab?|b", "b"},
		{"|ab", "|cd", "()", "|ab|cd", "ab"},
		{"[\\0\\xff]", "[\\xfe-\\xff]", "\\xff", "[\\0\\xfe\\xff]", "\\0"},
	}
	for _, w := range wants {
		for i, text := range []string{w.both, w.either, w.less} {
			want := nothing(t)
			if text != "" {
				want = of(t, text)
			}
			got := product(t, of(t, w.a), of(t, w.b), hows[i])
			if !dfa.Same(got, want) || got.Classes != want.Classes {
				t.Errorf("%s, %s, %d: it isn't %q", w.a, w.b, hows[i], text)
			}
		}
	}
}

func TestProductOfNothing(t *testing.T) {
	none, some := nothing(t), of(t, "a+b")
	if none.Len() != 1 || none.Width() != 1 || none.Ends(0) || none.Step(0, 'a') != dfa.Dead {
		t.Errorf("nothing: %v", none)
	}
	for _, how := range hows {
		for _, w := range []struct {
			a, b        *dfa.Auto
			first, more bool
		}{{none, none, false, false}, {none, some, false, true}, {some, none, true, false}} {
			want := none
			if wanted(w.first, w.more, how) {
				want = some
			}
			if !dfa.Same(product(t, w.a, w.b, how), want) {
				t.Errorf("of nothing, %d", how)
			}
		}
	}
}

func TestProductOfAll(t *testing.T) {
	rows := sample.Rows(4)
	list := trials(t)
	for i, w := range list {
		v := list[(i*7+3)%len(list)]
		for j, how := range hows {
			a, b := w.all[j%2], v.all[i%2]
			got := product(t, a, b, how)
			for _, row := range rows {
				if want := wanted(a.Match(row), b.Match(row), how); got.Match(row) != want {
					t.Errorf("%s, %s, %d: Match of %q isn't %v", w.text, v.text, how, row, want)
				}
			}
			if least := got.Least(); !dfa.Same(got, least) || got.Classes != least.Classes || got.Width() != least.Width() {
				t.Errorf("%s, %s, %d: it isn't the least one", w.text, v.text, how)
			}
		}
		one, e := dfa.Of(api.Regex{Kind: api.Alt, Kids: []api.Regex{w.n, v.n}})
		if e != api.OK || !dfa.Same(product(t, w.all[0], v.all[0], auto.Either), one) {
			t.Errorf("%s, %s: Either isn't an Alt", w.text, v.text)
		}
	}
}

// P9.4

func TestWithinAndApart(t *testing.T) {
	wants := []struct {
		a, b   string
		within bool
		but    string // the shortest bytes for which b doesn't stand
		apart  bool
	}{
		{"a+b", "a*b|c", true, "", false},
		{"a*b|c", "a+b", false, "b", false},
		{"a", "a", true, "", false},
		{"a", "b", false, "a", true},
		{"a*", "a", false, "", false},
		{"a+", "a", false, "aa", false},
		{"", "a*", true, "", false},
		{"", "a", false, "", true},
		{".", "[^x]", false, "x", false},
		{".*", "[^x]*", false, "x", false},
		{"[^x]*", ".*", true, "", false},
		{"[a-z]{3}", "[a-m][a-z]*|n[a-z]a", false, "nab", false},
		{"(aa)+", "(aaa)+", false, "aa", false},
		{"(aa)*a", "(aa)*", false, "a", true},
		{"b+|ca", "b|bb|c", false, "ca", false},
		{"(a{255}){4}aaa", "a*", true, "", false},
	}
	for _, w := range wants {
		a, b := of(t, w.a), of(t, w.b)
		if but, ok, e := auto.Within(a, b); string(but) != w.but || ok != w.within || e != api.OK {
			t.Errorf("%q within %q: %q, %v, %v", w.a, w.b, but, ok, e)
		}
		for _, two := range [][2]*dfa.Auto{{a, b}, {b, a}} {
			if apart, e := auto.Apart(two[0], two[1]); apart != w.apart || e != api.OK {
				t.Errorf("%q apart from %q: %v, %v", w.a, w.b, apart, e)
			}
		}
	}
}

func TestWithinAndApartOfNothing(t *testing.T) {
	none, some := nothing(t), of(t, "ab|c")
	for _, b := range []*dfa.Auto{none, some} {
		if but, ok, e := auto.Within(none, b); len(but) > 0 || !ok || e != api.OK {
			t.Errorf("nothing within some: %q, %v, %v", but, ok, e)
		}
		if apart, e := auto.Apart(none, b); !apart || e != api.OK {
			t.Errorf("nothing apart from some: %v, %v", apart, e)
		}
	}
	if but, ok, e := auto.Within(some, none); string(but) != "c" || ok || e != api.OK {
		t.Errorf("some within nothing: %q, %v, %v", but, ok, e)
	}
}

func TestWithinAndApartRefuse(t *testing.T) {
	type two struct {
		a, b *dfa.Auto
		e    api.Errno
	}
	a := of(t, "a")
	list := []two{{of(t, "(a{25})*"), of(t, "(a{41})*"), api.ErrStates}}
	for _, none := range without() {
		list = append(list, two{none, a, api.ErrEmpty}, two{a, none, api.ErrEmpty}, two{none, none, api.ErrEmpty})
	}
	for _, w := range list {
		if but, ok, e := auto.Within(w.a, w.b); but != nil || ok || e != w.e {
			t.Errorf("Within: %q, %v, %v, want %v", but, ok, e, w.e)
		}
		if apart, e := auto.Apart(w.a, w.b); apart || e != w.e {
			t.Errorf("Apart: %v, %v, want %v", apart, e, w.e)
		}
	}
}

func TestWithinAndApartOfAll(t *testing.T) {
	rows := sample.Rows(4)
	list := trials(t)
	for i, w := range list {
		v := list[(i*5+1)%len(list)]
		a, b := w.all[0], v.all[0]
		but, within, _ := auto.Within(a, b)
		if want := dfa.Same(product(t, a, b, auto.Both), w.all[1]); within != want {
			t.Errorf("%s within %s: %v", w.text, v.text, within)
		}
		if !within && (!a.Match(but) || b.Match(but)) || within && len(but) > 0 {
			t.Errorf("%s within %s: but %q", w.text, v.text, but)
		}
		apart, _ := auto.Apart(a, b)
		if want := auto.Empty(product(t, a, b, auto.Both)); apart != want {
			t.Errorf("%s apart from %s: %v", w.text, v.text, apart)
		}
		for _, row := range rows {
			if a.Match(row) && b.Match(row) && apart {
				t.Errorf("%s, %s: both stand for %q", w.text, v.text, row)
			}
			if a.Match(row) && !b.Match(row) && (within || len(row) < len(but) || len(row) == len(but) && slices.Compare(row, but) < 0) {
				t.Errorf("%s within %s: but %q, not %q", w.text, v.text, row, but)
			}
		}
	}
}

// P2: what is handed in stays, and what is answered is new.

// copied: the same automaton in memory of its own.
func copied(a *dfa.Auto) *dfa.Auto {
	out := &dfa.Auto{Classes: a.Classes, Accept: slices.Clone(a.Accept)}
	for _, row := range a.Next {
		out.Next = append(out.Next, slices.Clone(row))
	}
	return out
}

// alike: are two automata alike in all that they have?
func alike(a, b *dfa.Auto) bool {
	return a.Classes == b.Classes && slices.Equal(a.Accept, b.Accept) && slices.EqualFunc(a.Next, b.Next, slices.Equal[[]int])
}

// scribble writes on all that an automaton has, its spare room too.
func scribble(a *dfa.Auto) {
	a.Classes = [256]uint8{3, 2, 1}
	for _, row := range a.Next {
		copy(row[:cap(row)], make([]int, cap(row)))
	}
	clear(a.Next[:cap(a.Next)])
	clear(a.Accept[:cap(a.Accept)])
}

func TestAutomataStayAndAnswersAreNew(t *testing.T) {
	a, b := of(t, "(ab?|c){2,}d"), of(t, "[abc]*d?")
	keepA, keepB := copied(a), copied(b)
	for _, how := range hows {
		first := product(t, a, b, how)
		want := copied(first)
		again := product(t, a, b, how)
		same := product(t, a, a, how)
		scribble(first)
		scribble(same)
		if !alike(again, want) || !alike(product(t, a, b, how), want) {
			t.Errorf("%d: answers share memory", how)
		}
	}
	askAll(a)
	auto.Within(a, b)
	auto.Apart(a, b)
	if !alike(a, keepA) || !alike(b, keepB) {
		t.Error("an automaton isn't as it was")
	}
	short, _ := auto.Shortest(a)
	clear(short[:cap(short)])
	if again, _ := auto.Shortest(a); string(again) != "aad" {
		t.Errorf("Shortest is kept: %q", again)
	}
}
