package dfa

import (
	"guipure/api"
	"guipure/class"
	"guipure/nfa"
)

// maker makes an automaton of one that may be in several states at once.
type maker struct {
	from    nfa.Auto
	pieces  []class.Set // no edge leads on by some bytes of a piece alone
	sets    []set       // of each state, in which ones that is at once
	numbers map[set]int // of each such set, which state it is
}

// way leads on by the bytes of a set: to all states that are reached by one of these.
type way struct {
	by class.Set
	to set
}

// Make: the automaton of one that may be in several states at once: states are sets of its states.
func Make(n nfa.Auto) (*Auto, api.Errno) {
	switch {
	case n.Len() == 0:
		return nil, api.ErrEmpty
	case n.Len() > nfa.MaxStates: // no call made it, and a set can't hold so many
		return nil, api.ErrStates
	}
	m := maker{from: n, pieces: class.Split(n.Sets()...), numbers: map[set]int{}}
	out := &Auto{Classes: classes(m.pieces)}
	m.number(setOf(n.Start()))
	for s := 0; s < len(m.sets); s++ {
		list := m.sets[s].list()
		out.Next = append(out.Next, m.row(list))
		out.Accept = append(out.Accept, n.Ends(list))
		if len(m.sets) > MaxStates {
			return nil, api.ErrStates
		}
	}
	return out, api.OK
}

// classes: of each byte, in which one of some pieces it is.
func classes(pieces []class.Set) [256]uint8 {
	var out [256]uint8
	for i, piece := range pieces {
		for c := range piece.Each {
			out[c] = uint8(i)
		}
	}
	return out
}

// row: the states behind some at once, by the bytes of each piece.
func (m *maker) row(list []int) []int {
	ways := m.ways(list)
	out := make([]int, 0, len(m.pieces))
	for _, piece := range m.pieces {
		c, _ := piece.First() // all bytes of a piece lead to the same states
		var to set
		for i := range ways {
			if ways[i].by.Has(c) {
				to.join(&ways[i].to)
			}
		}
		out = append(out, m.number(to))
	}
	return out
}

// ways: those that lead from some states. They are fewer than the pieces mostly, so what is reached is asked seldom.
func (m *maker) ways(list []int) []way {
	var out []way
	var ends [][]int // of each way, where its edges lead
	numbers := map[class.Set]int{}
	for _, s := range list {
		for _, e := range m.from.Edges[s] {
			if e.Free {
				continue
			}
			i, ok := numbers[e.Set]
			if !ok {
				i = len(out)
				numbers[e.Set] = i
				out = append(out, way{by: e.Set})
				ends = append(ends, nil)
			}
			ends[i] = append(ends[i], e.To)
		}
	}
	for i, to := range ends {
		out[i].to = setOf(m.from.Reach(to...))
	}
	return out
}

// number: which state it is to be in all of a set at once: a new one, if none is so yet; Dead, if there is none in it.
func (m *maker) number(of set) int {
	if of == (set{}) {
		return Dead
	}
	s, ok := m.numbers[of]
	if !ok {
		s = len(m.sets)
		m.numbers[of] = s
		m.sets = append(m.sets, of)
	}
	return s
}
