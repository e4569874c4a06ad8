package dfa

import (
	"sync"
	"sync/atomic"

	"guipure/api"
	"guipure/regex"
)

// Lazy is an expression whose automaton is made when it is asked first.
type Lazy struct {
	n     api.Regex
	once  sync.Once
	auto  *Auto
	wrong api.Errno
	calls atomic.Int64
	made  atomic.Int64
}

// Later: an expression, whose automaton isn't made yet.
func Later(n api.Regex) *Lazy {
	if e := regex.Check(n); e != api.OK { // it may hold itself, so that it can't be copied
		return &Lazy{wrong: e}
	}
	return &Lazy{n: copied(n)}
}

// copied: an expression in memory of its own, as whoever handed it in may change it.
func copied(n api.Regex) api.Regex {
	kids := make([]api.Regex, 0, len(n.Kids))
	for _, kid := range n.Kids {
		kids = append(kids, copied(kid))
	}
	n.Kids = kids
	return n
}

// Auto: the automaton, or why there is none.
func (l *Lazy) Auto() (*Auto, api.Errno) {
	l.calls.Add(1)
	l.once.Do(l.build)
	return l.auto, l.wrong
}

// build: the automaton is made; the expression isn't needed any more.
func (l *Lazy) build() {
	l.made.Add(1)
	if l.wrong == api.OK {
		l.auto, l.wrong = Of(l.n)
	}
	l.n = api.Regex{}
}

// Counts: how often it was asked, and how often it was made.
func (l *Lazy) Counts() (int, int) { return int(l.calls.Load()), int(l.made.Load()) }
