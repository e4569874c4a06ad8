package nfa_test

import (
	"math"
	"slices"
	"testing"

	"guipure/api"
	"guipure/class"
	"guipure/nfa"
	"guipure/regex"
	"guipure/sample"
)

// read: the expression of a text.
func read(t *testing.T, text string) api.Regex {
	t.Helper()
	n, f := regex.Parse(text)
	if f != (api.Fault{}) {
		t.Fatalf("Parse of %q: %v", text, f)
	}
	return n
}

// made: the automaton of an expression.
func made(t *testing.T, n api.Regex) nfa.Auto {
	t.Helper()
	a, e := nfa.Make(n)
	if e != api.OK {
		t.Fatalf("Make of %q: %v", regex.Text(n), e)
	}
	return a
}

// of: the automaton of a text.
func of(t *testing.T, text string) nfa.Auto {
	t.Helper()
	return made(t, read(t, text))
}

// places are positions among at most 63 bytes: the bit of each.
type places uint64

// behind: where what stands for an expression may end, that begins at one of some places.
func behind(n api.Regex, b []byte, from places) places {
	switch n.Kind {
	case api.Nothing:
		return from
	case api.One:
		var out places
		for i, c := range b {
			if from>>i&1 == 1 && class.Set(n.Set).Has(c) {
				out |= 1 << (i + 1)
			}
		}
		return out
	case api.Cat:
		for _, kid := range n.Kids {
			from = behind(kid, b, from)
		}
		return from
	case api.Alt:
		var out places
		for _, kid := range n.Kids {
			out |= behind(kid, b, from)
		}
		return out
	}
	for range n.Min {
		from = behind(n.Kids[0], b, from)
	}
	out := from
	for i := n.Min; n.Max < 0 && i <= n.Min+len(b) || i < n.Max; i++ {
		from = behind(n.Kids[0], b, from)
		out |= from
	}
	return out
}

// standsFor: do bytes stand for an expression?
func standsFor(n api.Regex, b []byte) bool { return behind(n, b, 1)>>len(b)&1 == 1 }

// P7.1

func TestMakeRefuses(t *testing.T) {
	a := api.Regex{Kind: api.One, Set: class.Of('a')}
	kids := make([]api.Regex, 2)
	kids[0] = api.Regex{Kind: api.Cat, Kids: kids}
	kids[1] = kids[0]
	wants := []struct {
		what string
		n    api.Regex
		e    api.Errno
	}{
		{"no kind", api.Regex{}, api.ErrForm},
		{"a kind that there isn't", api.Regex{Kind: api.Repeat + 1}, api.ErrForm},
		{"a Cat of one", api.Regex{Kind: api.Cat, Kids: []api.Regex{a}}, api.ErrForm},
		{"a Repeat of none", api.Regex{Kind: api.Repeat, Max: 1}, api.ErrForm},
		{"a One without bytes", api.Regex{Kind: api.One}, api.ErrEmpty},
		{"a Repeat whose Min is too great", api.Regex{Kind: api.Repeat, Kids: []api.Regex{a}, Min: 257, Max: -1}, api.ErrRange},
		{"a Repeat whose Max is less", api.Regex{Kind: api.Repeat, Kids: []api.Regex{a}, Min: 2, Max: 1}, api.ErrRange},
		{"a Repeat of very many", api.Regex{Kind: api.Repeat, Kids: []api.Regex{a}, Min: math.MaxInt, Max: math.MaxInt}, api.ErrRange},
		{"one that holds itself", kids[0], api.ErrLong},
		{"one too many", api.Regex{Kind: api.Cat, Kids: slices.Repeat([]api.Regex{a}, 512)}, api.ErrLong},
		{"what may not be, behind too many states", api.Regex{Kind: api.Cat, Kids: []api.Regex{read(t, "(a{256}){256}"), {}}}, api.ErrForm},
	}
	for _, w := range wants {
		a, e := nfa.Make(w.n)
		if e != w.e || a.Edges != nil || a.End != 0 {
			t.Errorf("%s: %d states, %v, want %v", w.what, a.Len(), e, w.e)
		}
	}
}

func TestMakeOfTooMany(t *testing.T) {
	for text, want := range map[string]int{
		"(a{255}){15}a{253}":         4096,
		"(a{255}){15}a{254}":         0,
		"(a{255}){15}a{252}b":        4096,
		"(a{255}){15}a{252}bc":       0,
		"(a{255}){15}a{250,251}":     4095,
		"(a{255}){15}a{251,252}":     4096,
		"(a{255}){15}a{252,253}":     0,
		"(a{255}){15}(a{250}|b)":     0,
		"(a{255}){15}(a{249}|b)":     4096,
		"(a{255}){15}a{252}b{0}":     4096,
		"(a{255}){15}a{252}b{0}c":    0,
		"(a{255}){15}a{250,}":        4095,
		"(a{255}){15}a{251,}":        4096,
		"(a{255}){15}a{252,}":        0,
		"((a{256}){256}){256}":       0,
		"((a{256,}){256,}){256,}":    0,
		"((a{0,256}){0,256}){0,256}": 0,
		"((((((((a{256}){256}){256}){256}){256}){256}){256}){256}){256}": 0,
	} {
		a, e := nfa.Make(read(t, text))
		if a.Len() != want || (e == api.OK) != (want > 0) || e != api.OK && (e != api.ErrStates || a.Edges != nil || a.End != 0) {
			t.Errorf("%s: %d states, %v, want %d", text, a.Len(), e, want)
		}
	}
}

// Repeats of what adds no states don't take long.
func TestMakeOfNothingsEnds(t *testing.T) {
	nothings := api.Regex{Kind: api.Cat, Kids: slices.Repeat([]api.Regex{{Kind: api.Nothing}}, 500)}
	n := nothings
	for _, often := range []int{256, 256, 15} {
		n = api.Regex{Kind: api.Repeat, Kids: []api.Regex{n}, Min: often, Max: often}
	}
	if a := made(t, n); a.Len() != 1+1+15*(1+256) || !a.Match(nil) || a.Match([]byte("a")) {
		t.Errorf("%d states", a.Len())
	}
}

func TestLen(t *testing.T) {
	for text, want := range map[string]int{
		"":          1,
		"()()":      1,
		"a":         2,
		"[abc]":     2,
		"ab":        3,
		"abc":       4,
		"a()b":      3,
		"a|b":       1 + 3 + 2,
		"a|b|c":     1 + 4 + 3,
		"|":         1 + 3,
		"(a|b)|c":   1 + 3 + 3 + 3,
		"a{0}":      1 + 1,
		"a{3}":      1 + 1 + 3,
		"a?":        1 + 2 + 1,
		"a{2,5}":    1 + 4 + 5,
		"a{0,3}":    1 + 4 + 3,
		"a*":        1 + 2 + 1,
		"a+":        1 + 2 + 2,
		"a{2,}":     1 + 2 + 3,
		"(){4}":     1 + 1,
		"(){2,4}":   1 + 3,
		"()*":       1 + 2,
		"(ab){3}":   1 + 1 + 6,
		"(a?){3}":   1 + 1 + 3*3,
		"(a*)*":     1 + 2 + 3,
		"(a|b)+":    1 + 2 + 2*5,
		"a{2,}b?":   1 + 5 + 3,
		"(a{2}){3}": 1 + 1 + 3*3,
	} {
		if a := of(t, text); a.Len() != want {
			t.Errorf("%q: %d states, want %d", text, a.Len(), want)
		}
	}
	if (nfa.Auto{}).Len() != 0 {
		t.Error("the zero one has states")
	}
}

// states: how many states P7.1 tells.
func states(n api.Regex) int {
	kids := 0
	for _, kid := range n.Kids {
		kids += states(kid)
	}
	switch {
	case n.Kind == api.One:
		return 1
	case n.Kind == api.Alt:
		return 1 + len(n.Kids) + kids
	case n.Kind == api.Repeat && n.Max < 0:
		return 2 + (n.Min+1)*kids
	case n.Kind == api.Repeat:
		return 1 + n.Max - n.Min + n.Max*kids
	}
	return kids
}

func TestAutomata(t *testing.T) {
	for _, n := range sample.Regexes(500) {
		a := made(t, n)
		if a.Len() != 1+states(n) || a.End < 0 || a.End >= a.Len() {
			t.Errorf("%s: %d states, the End is %d", regex.Text(n), a.Len(), a.End)
		}
		for s, edges := range a.Edges {
			for _, e := range edges {
				if e.To < 0 || e.To >= a.Len() || e.Free != e.Set.Empty() {
					t.Errorf("%s: an edge from %d is %v", regex.Text(n), s, e)
				}
			}
		}
	}
}

// P7.2

// reached: all states that can be reached by free edges from some.
func reached(a nfa.Auto, list []int) []int {
	in := make([]bool, a.Len())
	for _, s := range list {
		if 0 <= s && s < a.Len() {
			in[s] = true
		}
	}
	for range a.Len() {
		for s, edges := range a.Edges {
			for _, e := range edges {
				in[e.To] = in[e.To] || in[s] && e.Free
			}
		}
	}
	var out []int
	for s, ok := range in {
		if ok {
			out = append(out, s)
		}
	}
	return out
}

func TestReach(t *testing.T) {
	m := sample.Maker{Seed: 5}
	for _, n := range sample.Regexes(500) {
		a := made(t, n)
		if got := a.Start(); !slices.Equal(got, reached(a, []int{0})) {
			t.Errorf("%s: Start: %v", regex.Text(n), got)
		}
		for s := range a.Len() {
			if got := a.Reach(s); !slices.Equal(got, reached(a, []int{s})) {
				t.Errorf("%s: Reach of %d: %v", regex.Text(n), s, got)
			}
		}
		for range 5 {
			var list []int
			for range m.UpTo(5) {
				list = append(list, m.UpTo(a.Len()+4)-2)
			}
			if got := a.Reach(list...); !slices.Equal(got, reached(a, list)) {
				t.Errorf("%s: Reach of %v: %v", regex.Text(n), list, got)
			}
		}
	}
}

func TestReachOfOther(t *testing.T) {
	a := of(t, "abc")
	wants := []struct{ list, want []int }{
		{nil, nil},
		{[]int{-1, 4, math.MinInt, math.MaxInt}, nil},
		{[]int{3, 0, 3, 1, 0}, []int{0, 1, 3}},
		{[]int{4, 2, -1}, []int{2}},
	}
	for _, w := range wants {
		if got := a.Reach(w.list...); !slices.Equal(got, w.want) {
			t.Errorf("Reach of %v: %v", w.list, got)
		}
	}
	var zero nfa.Auto
	if len(zero.Start()) > 0 || len(zero.Reach(0, 1, -1)) > 0 || len(zero.Step([]int{0}, 'a')) > 0 {
		t.Error("the zero one has states")
	}
}

func TestStep(t *testing.T) {
	m := sample.Maker{Seed: 7}
	for _, n := range sample.Regexes(500) {
		a := made(t, n)
		for range 8 {
			var list, to []int
			for range m.UpTo(6) {
				list = append(list, m.UpTo(a.Len()+2)-1)
			}
			c := "abcd\x00\xff"[m.UpTo(6)]
			for s, edges := range a.Edges {
				for _, e := range edges {
					if slices.Contains(list, s) && e.Set.Has(c) {
						to = append(to, e.To)
					}
				}
			}
			if got := a.Step(list, c); !slices.Equal(got, reached(a, to)) {
				t.Errorf("%s: Step of %v by %d: %v", regex.Text(n), list, c, got)
			}
		}
	}
}

// A Step leads from the states of its list alone, not from those that they reach.
func TestStepOfNoReach(t *testing.T) {
	a := of(t, "a?")
	if got := a.Step([]int{0}, 'a'); len(got) > 0 {
		t.Errorf("Step of the first one alone: %v", got)
	}
	if got := a.Step(a.Start(), 'a'); !a.Ends(got) {
		t.Errorf("Step of Start: %v", got)
	}
	if got := a.Step(a.Start(), 'b'); len(got) > 0 {
		t.Errorf("Step of Start by another byte: %v", got)
	}
	if got := a.Step([]int{-1, a.Len(), math.MaxInt, math.MinInt}, 'a'); len(got) > 0 {
		t.Errorf("Step of no states: %v", got)
	}
}

// P7.3

func TestEnds(t *testing.T) {
	a := of(t, "ab")
	for _, list := range [][]int{nil, {0}, {0, 1}, {-1, 3}} {
		if a.Ends(list) {
			t.Errorf("it ends in %v", list)
		}
	}
	for _, list := range [][]int{{2}, {0, 2}, {2, 0}, {7, 2, 2}} {
		if !a.Ends(list) {
			t.Errorf("it doesn't end in %v", list)
		}
	}
}

func TestMatch(t *testing.T) {
	wants := []struct {
		text    string
		matches []string
		others  []string
	}{
		{"a{2,}b?", []string{"aa", "aab", "aaa", "aaab"}, []string{"", "a", "ab", "aabb", "b", "aaba"}},
		{"", []string{""}, []string{"a", "\x00"}},
		{"()*", []string{""}, []string{"a"}},
		{"a", []string{"a"}, []string{"", "b", "aa"}},
		{".", []string{"\x00", "\xff", "a"}, []string{"", "ab"}},
		{"[^a]", []string{"\x00", "\xff"}, []string{"a", ""}},
		{"a|b|", []string{"a", "b", ""}, []string{"ab", "c"}},
		{"(a|b)c", []string{"ac", "bc"}, []string{"abc", "c", "a"}},
		{"a{0}", []string{""}, []string{"a"}},
		{"a{3}", []string{"aaa"}, []string{"aa", "aaaa"}},
		{"a{1,3}", []string{"a", "aa", "aaa"}, []string{"", "aaaa"}},
		{"(ab)*", []string{"", "ab", "abab"}, []string{"a", "aba", "ba"}},
		{"(a*)*", []string{"", "aaaa"}, []string{"b"}},
		{"(a*b*){2}", []string{"", "abab", "ba", "aab"}, []string{"ababa", "baba"}},
		{"(a?){2,3}b+", []string{"b", "ab", "aab", "aaabb"}, []string{"aaaab", "aaa"}},
		{"(a|b*)*c", []string{"c", "abbac"}, []string{"ab", "cc"}},
		{"(a+|b)+", []string{"a", "aab", "b"}, []string{"", "abc"}},
	}
	for _, w := range wants {
		a := of(t, w.text)
		for _, s := range w.matches {
			if !a.Match([]byte(s)) {
				t.Errorf("%s doesn't match %q", w.text, s)
			}
		}
		for _, s := range w.others {
			if a.Match([]byte(s)) {
				t.Errorf("%s matches %q", w.text, s)
			}
		}
	}
	if (nfa.Auto{}).Match(nil) || (nfa.Auto{}).Match([]byte("a")) {
		t.Error("the zero one matches something")
	}
}

func TestMatchOfAll(t *testing.T) {
	all := sample.Rows(4)
	for _, n := range sample.Regexes(500) {
		a := made(t, n)
		for _, b := range all {
			if want := standsFor(n, b); a.Match(b) != want {
				t.Errorf("%s: Match of %q isn't %v", regex.Text(n), b, want)
			}
		}
	}
}

// P7.4

func TestSets(t *testing.T) {
	wants := map[string][]class.Set{
		"":            nil,
		"()*|":        nil,
		"a{0}":        nil,
		"a":           {class.Of('a')},
		"aa|[a]a*":    {class.Of('a')},
		"a[ab]b.a":    {class.Of('a'), class.Of('a', 'b'), class.Of('b'), class.All()},
		"(a|[^a]){3}": {class.Of('a'), class.Of('a').Not()},
		"[abc]+":      {class.Range('a', 'c')},
	}
	for text, want := range wants {
		got := of(t, text).Sets()
		if len(got) != len(want) {
			t.Errorf("%q: %v, want %v", text, got, want)
		}
		for _, s := range want {
			if !slices.Contains(got, s) {
				t.Errorf("%q: %v isn't there", text, s)
			}
		}
	}
	if len((nfa.Auto{}).Sets()) > 0 {
		t.Error("the zero one has sets")
	}
}

func TestSetsOfAll(t *testing.T) {
	for _, n := range sample.Regexes(500) {
		a := made(t, n)
		want := map[class.Set]int{}
		for _, edges := range a.Edges {
			for _, e := range edges {
				if !e.Free {
					want[e.Set] = 1
				}
			}
		}
		got := a.Sets()
		for _, s := range got {
			want[s]--
		}
		for s, left := range want {
			if left != 0 {
				t.Errorf("%s: %v: %d are left", regex.Text(n), s, left)
			}
		}
		if !slices.Equal(got, made(t, n).Sets()) {
			t.Errorf("%s: the sets are told by chance", regex.Text(n))
		}
	}
}

// P1: of automata that Make didn't answer nothing is promised, but that calls end.
func TestOthersEnd(t *testing.T) {
	for _, a := range []nfa.Auto{
		{Edges: [][]nfa.Edge{{{To: 5, Free: true}, {To: -1, Set: class.All()}}}, End: 9},
		{Edges: [][]nfa.Edge{{{To: 0, Free: true}, {To: 0, Set: class.All()}}}, End: -1},
		{End: 1},
	} {
		a.Match([]byte("ab"))
		a.Ends(a.Step(a.Reach(0, 5, -1), 'a'))
		a.Sets()
	}
}

// P2: what is handed in stays, and what is answered is new.

func TestExpressionsStay(t *testing.T) {
	kids := append(make([]api.Regex, 0, 4), read(t, "a"), read(t, "b{2}"))
	n := api.Regex{Kind: api.Alt, Kids: kids}
	a := made(t, n)
	kids[0], kids[1].Kids[0] = read(t, "x"), read(t, "y")
	if !a.Match([]byte("a")) || !a.Match([]byte("bb")) || a.Match([]byte("x")) {
		t.Error("the automaton keeps what it was made of")
	}
	for _, kid := range kids[:4][2:] {
		if kid.Kind != 0 || kid.Kids != nil {
			t.Error("the spare room of the Kids isn't as it was")
		}
	}
}

func TestAnswersAreNew(t *testing.T) {
	n := read(t, "(a|b)*c?")
	a, b := made(t, n), made(t, n)
	for s := range a.Edges {
		for i := range a.Edges[s] {
			a.Edges[s][i] = nfa.Edge{}
		}
		a.Edges[s] = append(a.Edges[s], nfa.Edge{})
	}
	if b.Len() != a.Len() || !b.Match([]byte("abc")) || !slices.Equal(b.Start(), made(t, n).Start()) {
		t.Error("two automata share memory")
	}
}

func TestListsStay(t *testing.T) {
	a := of(t, "(a|b)*c?")
	list := append(make([]int, 0, 64), 3, 0, 3, 1, -5)
	keep := slices.Clone(list[:cap(list)])
	lists := [][]int{a.Reach(list...), a.Step(list, 'a'), a.Start(), a.Start(), a.Reach(0), a.Step(a.Start(), 'a')}
	a.Ends(list)
	if !slices.Equal(list[:cap(list)], keep) {
		t.Error("the list isn't as it was")
	}
	for _, got := range lists {
		before := slices.Clone(got)
		for i := range got[:cap(got)] {
			got[:cap(got)][i] = 99
		}
		if slices.Contains(list[:cap(list)], 99) || !slices.Equal(a.Start(), a.Reach(0)) || slices.Contains(a.Start(), 99) {
			t.Error("an answer shares memory")
		}
		copy(got, before)
	}
	b := []byte("abc")
	a.Match(b)
	if string(b) != "abc" {
		t.Error("the bytes aren't as they were")
	}
	sets := a.Sets()
	sets[0] = class.Set{}
	if slices.Contains(a.Sets(), class.Set{}) {
		t.Error("Sets are kept")
	}
}
