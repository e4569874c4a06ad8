package dfa_test

import (
	"slices"
	"sync"
	"testing"

	"guipure/api"
	"guipure/dfa"
)

// P8.5

// wantCounts tells if Auto wasn't called so often, or Of not asked so often.
func wantCounts(t *testing.T, l *dfa.Lazy, calls, made int) {
	t.Helper()
	if gotCalls, gotMade := l.Counts(); gotCalls != calls || gotMade != made {
		t.Errorf("Counts: %d and %d, want %d and %d", gotCalls, gotMade, calls, made)
	}
}

func TestLater(t *testing.T) {
	l := dfa.Later(read(t, "a+b"))
	wantCounts(t, l, 0, 0)
	first, e := l.Auto()
	if e != api.OK || !dfa.Same(first, of(t, "a+b")) {
		t.Errorf("Auto: %v, %v", first, e)
	}
	wantCounts(t, l, 1, 1)
	for i := range 5 {
		if again, e := l.Auto(); again != first || e != api.OK {
			t.Errorf("Auto is another one: %v, %v", again, e)
		}
		wantCounts(t, l, i+2, 1)
	}
	other := dfa.Later(read(t, "a+b"))
	wantCounts(t, other, 0, 0)
	if a, _ := other.Auto(); a == first {
		t.Error("two answer the same one")
	}
	wantCounts(t, l, 6, 1)
}

func TestLaterOfWrong(t *testing.T) {
	for _, r := range allRefused(t) {
		l := dfa.Later(r.n)
		wantCounts(t, l, 0, 0)
		for i := range 3 {
			if a, e := l.Auto(); a != nil || e != r.e {
				t.Errorf("%v, %v, want %v", a, e, r.e)
			}
			wantCounts(t, l, i+1, 1)
		}
	}
}

// Whoever handed an expression in may change it.
func TestLaterKeepsNothing(t *testing.T) {
	n := read(t, "(ab|c)*d")
	want := of(t, "(ab|c)*d")
	l := dfa.Later(n)
	n.Kids[0].Kids[0].Kids[0].Kids[0] = read(t, "x")
	n.Kids[0].Kids[0].Kids[1] = read(t, "y")
	n.Kids[1] = api.Regex{}
	if a, e := l.Auto(); e != api.OK || !dfa.Same(a, want) {
		t.Errorf("Auto: %v, %v", a, e)
	}
	kids := append(make([]api.Regex, 0, 3), read(t, "a"), read(t, "b"))
	dfa.Later(api.Regex{Kind: api.Alt, Kids: kids}).Auto()
	if spare := kids[:3][2]; spare.Kind != 0 || spare.Kids != nil {
		t.Error("the spare room isn't as it was")
	}
	bad := api.Regex{Kind: api.Cat, Kids: []api.Regex{read(t, "a"), {}}}
	l = dfa.Later(bad)
	bad.Kids[1] = read(t, "b")
	if a, e := l.Auto(); a != nil || e != api.ErrForm {
		t.Errorf("of one that was mended: %v, %v", a, e)
	}
}

func TestLaterOfManyAtOnce(t *testing.T) {
	const many = 32
	l := dfa.Later(read(t, "(a|b)*a(a|b){6}"))
	got := make([]*dfa.Auto, many)
	var all sync.WaitGroup
	for i := range many {
		all.Go(func() { got[i], _ = l.Auto() })
	}
	all.Wait()
	if got[0] == nil || slices.ContainsFunc(got, func(a *dfa.Auto) bool { return a != got[0] }) {
		t.Error("Auto isn't the same one each time")
	}
	wantCounts(t, l, many, 1)
}
