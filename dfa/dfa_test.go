package dfa_test

import (
	"math"
	"slices"
	"testing"

	"guipure/api"
	"guipure/class"
	"guipure/dfa"
	"guipure/nfa"
	"guipure/regex"
	"guipure/sample"
)

// read: the expression of a text.
func read(t *testing.T, text string) api.Regex {
	t.Helper()
	n, f := regex.Parse(text)
	if f != (api.Fault{}) {
		t.Fatalf("Parse of %q: %v", text, f)
	}
	return n
}

// many: the automaton of an expression that may be in several states at once.
func many(t *testing.T, n api.Regex) nfa.Auto {
	t.Helper()
	a, e := nfa.Make(n)
	if e != api.OK {
		t.Fatalf("layer 7's Make of %q: %v", regex.Text(n), e)
	}
	return a
}

// made: Make of such a one.
func made(t *testing.T, n api.Regex) *dfa.Auto {
	t.Helper()
	a, e := dfa.Make(many(t, n))
	if e != api.OK {
		t.Fatalf("Make of %q: %v", regex.Text(n), e)
	}
	return a
}

// of: Of of a text.
func of(t *testing.T, text string) *dfa.Auto {
	t.Helper()
	a, e := dfa.Of(read(t, text))
	if e != api.OK {
		t.Fatalf("Of of %q: %v", text, e)
	}
	return a
}

// expressions: many that may be, of which there are automata that aren't too great.
func expressions() []api.Regex {
	return slices.DeleteFunc(sample.Regexes(400), func(n api.Regex) bool {
		a, e := nfa.Make(n)
		return e != api.OK || a.Len() >= 200
	})
}

// P8.1

func TestMakeRefuses(t *testing.T) {
	if a, e := dfa.Make(nfa.Auto{}); a != nil || e != api.ErrEmpty {
		t.Errorf("of one without states: %v, %v", a, e)
	}
	for text, want := range map[string]int{
		"(a{255}){4}aaa":           1024,
		"(a{255}){4}aaaa":          0,
		"(a{255}){4}aab":           1024,
		"(a{255}){4}aa(b|c)":       0,
		"(a{255}){4}aa[bc]":        1024,
		"(a|b)*a(a|b){8}":          513,
		"(a|b)*a(a|b){9}":          0,
		"(a|b)*a(a|b){250}":        0,
		"((a?){250}){3}(a?){250}":  1001,
		"((a?){250}){4}(a?){24}":   0,
		"((a?){250}){4}(a?){23}":   1024,
		"((){0,255}){15}(){0,253}": 1, // of 4096 states
	} {
		n := many(t, read(t, text))
		a, e := dfa.Make(n)
		if a.Len() != want || want > 0 && e != api.OK || want == 0 && (e != api.ErrStates || a != nil) {
			t.Errorf("%s: %d states, %v, want %d", text, a.Len(), e, want)
		}
	}
}

// textOf: a set of states as a text, which can be a map's key.
func textOf(list []int) string {
	var out []byte
	for _, s := range list {
		out = append(out, byte(s), byte(s>>8))
	}
	return string(out)
}

// A state of Make's is a set of states of the other one: as many as there are, each led to as Steps lead.
func TestMakeOfSets(t *testing.T) {
	for _, n := range expressions() {
		from := many(t, n)
		a := made(t, n)
		lists := map[int][]int{0: from.Start()}
		todo := []int{0}
		for ; len(todo) > 0; todo = todo[1:] {
			s := todo[0]
			if a.Ends(s) != slices.Contains(lists[s], from.End) {
				t.Fatalf("%s: Ends of %v", regex.Text(n), lists[s])
			}
			for c := range 256 {
				behind, list := a.Step(s, byte(c)), from.Step(lists[s], byte(c))
				if (behind == dfa.Dead) != (len(list) == 0) {
					t.Fatalf("%s: by %d: %d, of %v", regex.Text(n), c, behind, list)
				}
				if behind == dfa.Dead {
					continue
				}
				if was, ok := lists[behind]; !ok {
					lists[behind] = list
					todo = append(todo, behind)
				} else if !slices.Equal(was, list) {
					t.Fatalf("%s: %d is %v and %v", regex.Text(n), behind, was, list)
				}
			}
		}
		met := map[string]int{}
		for _, list := range lists {
			met[textOf(list)] = 1
		}
		if len(lists) != a.Len() || len(met) != a.Len() {
			t.Errorf("%s: %d states, %d are met, %d sets", regex.Text(n), a.Len(), len(lists), len(met))
		}
	}
}

// P8.2

func TestLenAndWidth(t *testing.T) {
	wants := []struct {
		text         string
		states, wide int
	}{
		{"", 1, 1},
		{"()*", 1, 1},
		{".*", 1, 1},
		{".", 2, 1},
		{"a", 2, 2},
		{"[a-f]", 2, 2},
		{"a|b|c", 2, 2},
		{"a+b", 3, 3},
		{"[^a]*", 1, 2},
		{"a?", 2, 2},
		{"abab", 5, 3},
		{"[ab]c|ac", 3, 3},
		{"ac|bd", 4, 5},
		{"(a|b)*a(a|b){3}", 16, 3},
		{"(a|b)*a(a|b){8}", 512, 3},
		{"a*|b*", 3, 3},
		{"(aa)*|(aaa)*", 6, 2},
	}
	for _, w := range wants {
		if a := of(t, w.text); a.Len() != w.states || a.Width() != w.wide {
			t.Errorf("%q: %d states, %d classes, want %d and %d", w.text, a.Len(), a.Width(), w.states, w.wide)
		}
	}
	var every []api.Regex
	for c := range 256 {
		every = append(every, api.Regex{Kind: api.One, Set: class.Of(byte(c))})
	}
	a, e := dfa.Of(api.Regex{Kind: api.Cat, Kids: every})
	if a.Len() != 257 || a.Width() != 256 || e != api.OK {
		t.Errorf("all bytes, one behind the other: %d states, %d classes, %v", a.Len(), a.Width(), e)
	}
	for c := range 256 {
		if a.Step(c, byte(c)) != c+1 || a.Step(c, byte(c+1)) != dfa.Dead || int(a.Classes[c]) != c {
			t.Errorf("all bytes, one behind the other: %d", c)
		}
	}
}

func TestStepAndEnds(t *testing.T) {
	a := of(t, "a+b")
	steps := []struct {
		s    int
		c    byte
		want int
	}{
		{0, 'a', 1}, {1, 'a', 1}, {1, 'b', 2},
		{0, 'b', dfa.Dead}, {0, 0, dfa.Dead}, {1, 'c', dfa.Dead}, {2, 'a', dfa.Dead}, {2, 'b', dfa.Dead}, {2, 255, dfa.Dead},
		{3, 'a', dfa.Dead}, {-1, 'a', dfa.Dead}, {dfa.Dead, 'b', dfa.Dead}, {math.MaxInt, 'a', dfa.Dead}, {math.MinInt, 'a', dfa.Dead},
	}
	for _, w := range steps {
		if got := a.Step(w.s, w.c); got != w.want {
			t.Errorf("Step of %d by %d: %d, want %d", w.s, w.c, got, w.want)
		}
	}
	for s, want := range map[int]bool{0: false, 1: false, 2: true, 3: false, -1: false, math.MaxInt: false, math.MinInt: false} {
		if a.Ends(s) != want {
			t.Errorf("Ends of %d isn't %v", s, want)
		}
	}
	if dfa.Dead != -1 || dfa.MaxStates != 1024 {
		t.Error("Dead, MaxStates")
	}
}

func TestMatch(t *testing.T) {
	a := of(t, "a+b")
	for s, want := range map[string]bool{"ab": true, "aaab": true, "": false, "a": false, "b": false, "abb": false, "ba": false, "aba": false, "xab": false} {
		if a.Match([]byte(s)) != want || made(t, read(t, "a+b")).Match([]byte(s)) != want {
			t.Errorf("Match of %q isn't %v", s, want)
		}
	}
}

func TestMatchOfAll(t *testing.T) {
	all := sample.Rows(4)
	for _, n := range expressions() {
		from, a := many(t, n), made(t, n)
		least := a.Least()
		for _, b := range all {
			want := from.Match(b)
			if a.Match(b) != want || least.Match(b) != want {
				t.Errorf("%s: Match of %q isn't %v", regex.Text(n), b, want)
			}
		}
	}
}

// P8.3

// apart: of each two states, whether some bytes lead from one of them alone to an end; Dead is the last one.
func apart(a *dfa.Auto) [][]bool {
	many := a.Len() + 1
	on := func(s, c int) int {
		if behind := a.Step(s, byte(c)); behind != dfa.Dead {
			return behind
		}
		return many - 1
	}
	out := make([][]bool, many)
	for s := range out {
		out[s] = make([]bool, many)
		for other := range many {
			out[s][other] = a.Ends(s) != a.Ends(other)
		}
	}
	for again := true; again; {
		again = false
		for s := range many {
			for other := range s {
				for c := 0; c < 256 && !out[s][other]; c++ {
					if out[on(s, c)][on(other, c)] {
						out[s][other], out[other][s], again = true, true, true
					}
				}
			}
		}
	}
	return out
}

// wantLeast tells if an automaton isn't as small as can be, or not numbered as P8.3 tells.
func wantLeast(t *testing.T, what string, a *dfa.Auto) {
	t.Helper()
	differ := apart(a)
	for s := range differ {
		for other := range s {
			if !differ[s][other] && !(other == 0 && a.Len() == 1) {
				t.Errorf("%s: %d and %d can't be told apart", what, s, other)
			}
		}
	}
	met := 1
	for s := range a.Len() {
		if s >= met {
			t.Errorf("%s: %d isn't met", what, s)
		}
		for c := range 256 {
			behind := a.Step(s, byte(c))
			if behind > met {
				t.Errorf("%s: %d is met ahead of %d", what, behind, met)
			}
			met = max(met, behind+1)
		}
	}
	wantClasses(t, what, a)
}

// wantClasses tells if bytes of a class lead to several states, those of two classes don't, or the classes aren't numbered by their least bytes.
func wantClasses(t *testing.T, what string, a *dfa.Auto) {
	t.Helper()
	column := func(c int) string {
		var list []int
		for s := range a.Len() {
			list = append(list, a.Step(s, byte(c))+1)
		}
		return textOf(list)
	}
	numbers := map[string]uint8{}
	for c := range 256 {
		key := column(c)
		if _, ok := numbers[key]; !ok {
			numbers[key] = uint8(len(numbers))
		}
		if a.Classes[c] != numbers[key] {
			t.Errorf("%s: %d is in the class %d, not %d", what, c, a.Classes[c], numbers[key])
		}
	}
	if a.Width() != len(numbers) || len(a.Next) != a.Len() || len(a.Accept) != a.Len() {
		t.Errorf("%s: %d classes, not %d; %d and %d states", what, a.Width(), len(numbers), len(a.Next), len(a.Accept))
	}
	for s, row := range a.Next {
		if len(row) != a.Width() {
			t.Errorf("%s: %d classes of %d", what, len(row), s)
		}
	}
}

func TestLeast(t *testing.T) {
	for _, n := range expressions() {
		a := made(t, n)
		least := a.Least()
		wantLeast(t, regex.Text(n), least)
		if !dfa.Same(least, least.Least()) || !dfa.Same(least, a.Least()) {
			t.Errorf("%s: Least of Least is another one", regex.Text(n))
		}
	}
}

// wound: an automaton that stands for the same, but with its states, and classes, in another order, each state twice, some that aren't met, and some that lead to no end.
func wound(a *dfa.Auto, m *sample.Maker) *dfa.Auto {
	many := 2*a.Len() + 4
	places := []int{0} // of each state, and its twin, where it stands
	for s := 1; s < many; s++ {
		places = slices.Insert(places, 1+m.UpTo(len(places)), s)
	}
	at := make([]int, many)
	for i, s := range places {
		at[s] = i
	}
	lost := func() int { return at[2*a.Len()+m.UpTo(3)] } // states from which no end is reached
	out := &dfa.Auto{Next: make([][]int, many), Accept: make([]bool, many)}
	for c := range 256 {
		out.Classes[c] = uint8(255 - c)
	}
	for s := range many {
		row := make([]int, 256)
		for c := range 256 {
			behind := a.Step(s/2, byte(c))
			switch {
			case s < 2*a.Len() && behind != dfa.Dead:
				row[255-c] = at[2*behind+m.UpTo(2)]
			case s == many-1:
				row[255-c] = at[m.UpTo(many)] // nothing leads to this one
			case m.UpTo(3) > 0:
				row[255-c] = lost()
			default:
				row[255-c] = dfa.Dead
			}
		}
		out.Next[at[s]] = row
		out.Accept[at[s]] = s < 2*a.Len() && a.Ends(s/2) || s == many-1
	}
	return out
}

func TestLeastIsTheOnlyOne(t *testing.T) {
	m := &sample.Maker{Seed: 9}
	for _, n := range expressions() {
		a := made(t, n)
		least := a.Least()
		if got := wound(a, m).Least(); !dfa.Same(got, least) || got.Classes != least.Classes || got.Width() != least.Width() {
			t.Errorf("%s: another one with other states and classes", regex.Text(n))
		}
	}
}

func TestLeastOfAlike(t *testing.T) {
	for _, texts := range [][]string{
		{"a+", "aa*", "a*a", "a{1,}", "(a|aa)+", "a(a*)*"},
		{"", "()", "a{0}", "()*|"},
		{"(a|b)*", "(a*b*)*", "[ab]*", "(a*|b)*", "((a|b)(a|b))*[ab]?"},
		{"abc|abd", "ab[cd]", "a(bc|bd)"},
		{"a?b?", "|a|b|ab", "(a|)(|b)"},
		{"(aa)*|(aaa)*", "(aaaaaa)*(|aa|aaa|aaaa)"},
		{"(ab)*a", "a(ba)*"},
	} {
		want := of(t, texts[0])
		for _, text := range texts[1:] {
			if got := of(t, text); !dfa.Same(got, want) || got.Classes != want.Classes {
				t.Errorf("%q and %q aren't the same", text, texts[0])
			}
		}
	}
}

// Of one that matches nothing the first state is left, which leads nowhere.
func TestLeastOfNothing(t *testing.T) {
	for what, a := range map[string]*dfa.Auto{
		"one state":      {Next: [][]int{{dfa.Dead}}, Accept: []bool{false}},
		"a ring":         {Next: [][]int{{1}, {0}}, Accept: []bool{false, false}},
		"an end unmet":   {Next: [][]int{{1}, {0}, {0}}, Accept: []bool{false, false, true}},
		"a state, alone": {Next: [][]int{{0}}, Accept: []bool{false}},
	} {
		got := a.Least()
		if got.Len() != 1 || got.Width() != 1 || got.Step(0, 'a') != dfa.Dead || got.Ends(0) || got.Classes != [256]uint8{} || len(got.Accept) != 1 {
			t.Errorf("%s: %v", what, got)
		}
	}
}

func TestLeastOfMany(t *testing.T) {
	for text, want := range map[string]int{"(a{255}){4}aaa": 1024, "((a?){250}){3}(a?){250}": 1001, "(a|b)*a(a|b){8}": 512, "((a|b)(c|d)){100}": 201} {
		if a := of(t, text); a.Len() != want {
			t.Errorf("%s: %d states, want %d", text, a.Len(), want)
		}
	}
}

// P8.4

func TestOf(t *testing.T) {
	for _, n := range expressions() {
		a, e := dfa.Of(n)
		if want := made(t, n).Least(); e != api.OK || !dfa.Same(a, want) || a.Classes != want.Classes {
			t.Errorf("%s: Of isn't Least of Make", regex.Text(n))
		}
	}
	a := of(t, "a+b")
	if a.Len() != 3 || a.Width() != 3 || a.Classes['a'] != 1 || a.Classes['b'] != 2 || a.Classes[0] != 0 || a.Classes['c'] != 0 {
		t.Errorf("a+b: %v", a)
	}
}

// refused is an expression of which there is no automaton, and why.
type refused struct {
	n api.Regex
	e api.Errno
}

func allRefused(t *testing.T) []refused {
	t.Helper()
	kids := make([]api.Regex, 2)
	kids[0] = api.Regex{Kind: api.Cat, Kids: kids}
	kids[1] = kids[0]
	return []refused{
		{api.Regex{}, api.ErrForm},
		{api.Regex{Kind: api.One}, api.ErrEmpty},
		{api.Regex{Kind: api.Repeat, Kids: []api.Regex{read(t, "a")}, Min: 257, Max: 257}, api.ErrRange},
		{kids[0], api.ErrLong},
		{read(t, "(a{256}){256}"), api.ErrStates},
		{read(t, "(a|b)*a(a|b){10}"), api.ErrStates},
	}
}

func TestOfRefuses(t *testing.T) {
	for _, r := range allRefused(t) {
		if a, e := dfa.Of(r.n); a != nil || e != r.e {
			t.Errorf("%v, %v, want %v", a, e, r.e)
		}
	}
}

func TestSame(t *testing.T) {
	texts := []string{"", "a", "b", "[ab]", "a*", "a?", "aa", "ab", "a+b", "a*b", ".", ".*", "[^a]"}
	for i, text := range texts {
		for j, other := range texts {
			if dfa.Same(of(t, text), of(t, other)) != (i == j) {
				t.Errorf("%q and %q", text, other)
			}
		}
	}
	if !dfa.Same(nil, nil) || dfa.Same(nil, of(t, "")) || dfa.Same(of(t, ""), nil) {
		t.Error("none")
	}
}

// changed: another automaton that is alike, but for what a function changes in it.
func changed(a *dfa.Auto, change func(*dfa.Auto)) *dfa.Auto {
	out := &dfa.Auto{Classes: a.Classes, Accept: slices.Clone(a.Accept)}
	for _, row := range a.Next {
		out.Next = append(out.Next, slices.Clone(row))
	}
	change(out)
	return out
}

func TestSameOfChanged(t *testing.T) {
	a := of(t, "(a|b)*ab{2}c?")
	if !dfa.Same(a, changed(a, func(*dfa.Auto) {})) {
		t.Error("a copy")
	}
	last := a.Len() - 1
	for what, change := range map[string]func(*dfa.Auto){
		"the last end":      func(b *dfa.Auto) { b.Accept[last] = !b.Accept[last] },
		"the first end":     func(b *dfa.Auto) { b.Accept[0] = !b.Accept[0] },
		"a step":            func(b *dfa.Auto) { b.Next[last][0] = 0 },
		"a step to none":    func(b *dfa.Auto) { b.Next[0][b.Classes['a']] = dfa.Dead },
		"the first byte":    func(b *dfa.Auto) { b.Classes[0] = b.Classes['a'] },
		"the last byte":     func(b *dfa.Auto) { b.Classes[255] = b.Classes['a'] },
		"a state more":      func(b *dfa.Auto) { b.Next, b.Accept = append(b.Next, b.Next[0]), append(b.Accept, false) },
		"two states turned": func(b *dfa.Auto) { b.Next[1], b.Next[2] = b.Next[2], b.Next[1] },
	} {
		b := changed(a, change)
		if dfa.Same(a, b) || dfa.Same(b, a) {
			t.Errorf("%s", what)
		}
	}
}

// P1: of automata that no call answered nothing is promised, but that calls end.
func TestOthersEnd(t *testing.T) {
	for _, a := range []*dfa.Auto{
		nil,
		{},
		{Next: [][]int{{}}},
		{Next: [][]int{nil, {7, -9}}, Accept: []bool{true, true, true}},
		{Classes: [256]uint8{'a': 255}, Next: [][]int{{0}}, Accept: []bool{true}},
	} {
		a.Match([]byte("ab"))
		a.Step(0, 'a')
		a.Ends(2)
		a.Width()
		dfa.Same(a, of(t, "a"))
		dfa.Same(of(t, "a"), a)
		a.Least().Match([]byte("a"))
	}
	for _, a := range []nfa.Auto{
		{Edges: [][]nfa.Edge{{{To: 5, Free: true}, {To: -1, Set: class.All()}}}, End: 9},
		{Edges: make([][]nfa.Edge, nfa.MaxStates+1), End: nfa.MaxStates},
		{Edges: [][]nfa.Edge{{{To: 0}}}},
	} {
		if got, e := dfa.Make(a); e == api.OK {
			got.Match([]byte("a"))
		}
	}
}

// P2: what is handed in stays, and what is answered is new.

// scribble writes on all that an automaton has, its spare room too.
func scribble(a *dfa.Auto) {
	a.Classes = [256]uint8{3, 2, 1}
	for _, row := range a.Next {
		for i := range row[:cap(row)] {
			row[:cap(row)][i] = 0
		}
	}
	for i := range a.Next[:cap(a.Next)] {
		a.Next[:cap(a.Next)][i] = nil
	}
	for i := range a.Accept[:cap(a.Accept)] {
		a.Accept[:cap(a.Accept)][i] = true
	}
}

func TestAnswersAreNew(t *testing.T) {
	n := read(t, "(ab?|c){2,}d")
	from := many(t, n)
	want := changed(made(t, n), func(*dfa.Auto) {})
	first, _ := dfa.Make(from)
	second, _ := dfa.Make(from)
	least := first.Least()
	again := least.Least()
	wantLeast := changed(least, func(*dfa.Auto) {})
	scribble(least)
	if !dfa.Same(first, want) || !dfa.Same(again, wantLeast) || !dfa.Same(of(t, "(ab?|c){2,}d"), wantLeast) {
		t.Error("Least shares memory")
	}
	scribble(first)
	if third, _ := dfa.Make(from); !dfa.Same(second, want) || !dfa.Same(third, want) || !dfa.Same(again, wantLeast) {
		t.Error("Make shares memory")
	}
	for s := range again.Next {
		_ = append(again.Next[s], 99) // the spare room is none of another row
	}
	if !dfa.Same(again, wantLeast) {
		t.Error("rows share memory")
	}
}

func TestWhatIsHandedInStays(t *testing.T) {
	n := read(t, "(ab?|c){2,}d")
	from := many(t, n)
	a, _ := dfa.Make(from)
	keep := changed(a, func(*dfa.Auto) {})
	for s := range from.Edges {
		from.Edges[s] = nil
	}
	if !dfa.Same(a, keep) {
		t.Error("Make keeps what it was made of")
	}
	a.Least()
	dfa.Same(a, a.Least())
	b := []byte("abcd")
	a.Match(b)
	if !dfa.Same(a, keep) || a.Classes != keep.Classes || string(b) != "abcd" {
		t.Error("what is handed in isn't as it was")
	}
	if text := regex.Text(n); text != "(ab?|c){2,}d" {
		t.Errorf("the expression is %s", text)
	}
}
