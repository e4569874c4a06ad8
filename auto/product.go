package auto

import (
	"guipure/api"
	"guipure/dfa"
)

// How two automata are put together.
const (
	Both   = 1 + iota // what both stand for
	Either            // what one of both stands for, or both
	Less              // what the first one stands for, and the second one doesn't
)

// pair is a state of each of two automata; dfa.Dead, where one of these leads nowhere any more. Or it is a class of bytes of each.
type pair struct{ a, b int }

// maker puts two automata together.
type maker struct {
	a, b    *dfa.Auto
	how     int
	pairs   []pair
	numbers map[pair]int // of each pair, which state it is
}

// Product: the least automaton of two, put together.
func Product(a, b *dfa.Auto, how int) (*dfa.Auto, api.Errno) {
	switch {
	case how < Both || how > Less:
		return nil, api.ErrRange
	case none(a) || none(b):
		return nil, api.ErrEmpty
	}
	m := maker{a: a, b: b, how: how, numbers: map[pair]int{}}
	out := &dfa.Auto{}
	firsts := m.classes(out)
	m.number(pair{})
	for s := 0; s < len(m.pairs); s++ {
		out.Next = append(out.Next, m.row(m.pairs[s], firsts))
		out.Accept = append(out.Accept, m.ends(m.pairs[s]))
		if len(m.pairs) > dfa.MaxStates {
			return nil, api.ErrStates
		}
	}
	return out.Least(), api.OK
}

// classes: two bytes come to be of one class, if they are so in both automata; the least byte of each, which they are numbered by.
func (m *maker) classes(out *dfa.Auto) []byte {
	var firsts []byte
	numbers := map[pair]int{}
	for c := range out.Classes {
		key := pair{int(m.a.Classes[c]), int(m.b.Classes[c])}
		k, ok := numbers[key]
		if !ok {
			k = len(firsts)
			numbers[key] = k
			firsts = append(firsts, byte(c))
		}
		out.Classes[c] = uint8(k)
	}
	return firsts
}

// row: the states behind a pair, by the bytes of each class.
func (m *maker) row(p pair, firsts []byte) []int {
	out := make([]int, 0, len(firsts))
	for _, c := range firsts {
		out = append(out, m.number(pair{m.a.Step(p.a, c), m.b.Step(p.b, c)}))
	}
	return out
}

// number: which state a pair is: a new one, if it wasn't met yet; dfa.Dead, if it can't lead to an end.
func (m *maker) number(p pair) int {
	if m.dead(p) {
		return dfa.Dead
	}
	s, ok := m.numbers[p]
	if !ok {
		s = len(m.pairs)
		m.numbers[p] = s
		m.pairs = append(m.pairs, p)
	}
	return s
}

// dead: is a pair without what is needed for an end?
func (m *maker) dead(p pair) bool {
	switch m.how {
	case Both:
		return p.a == dfa.Dead || p.b == dfa.Dead
	case Either:
		return p == pair{dfa.Dead, dfa.Dead}
	}
	return p.a == dfa.Dead
}

// ends: does it end in a pair?
func (m *maker) ends(p pair) bool {
	a, b := m.a.Ends(p.a), m.b.Ends(p.b)
	switch m.how {
	case Both:
		return a && b
	case Either:
		return a || b
	}
	return a && !b
}

// Within: does the second automaton stand for all that the first one does? If not, the shortest bytes for which it doesn't.
func Within(a, b *dfa.Auto) ([]byte, bool, api.Errno) {
	rest, e := Product(a, b, Less)
	if e != api.OK {
		return nil, false, e
	}
	out, some := Shortest(rest)
	return out, !some, api.OK
}

// Apart: do two automata stand for nothing in common?
func Apart(a, b *dfa.Auto) (bool, api.Errno) {
	common, e := Product(a, b, Both)
	if e != api.OK {
		return false, e
	}
	return Empty(common), api.OK
}
