package nfa

import (
	"guipure/api"
	"guipure/class"
	"guipure/regex"
)

// maker puts an automaton together.
type maker struct {
	Auto
}

// Make: the automaton of an expression.
func Make(n api.Regex) (Auto, api.Errno) {
	if e := regex.Check(n); e != api.OK {
		return Auto{}, e
	}
	if 1+adds(n) > MaxStates { // told ahead: repeats within one another would make far too many
		return Auto{}, api.ErrStates
	}
	var m maker
	m.End = m.put(n, m.state())
	return m.Auto, api.OK
}

// adds: how many states an expression adds; MaxStates, if they are more.
func adds(n api.Regex) int {
	own, often := 0, 1
	switch n.Kind {
	case api.One:
		own = 1
	case api.Alt:
		own = 1 + len(n.Kids)
	case api.Repeat:
		own, often = repeatAdds(n)
	}
	for _, kid := range n.Kids {
		own += often * adds(kid)
	}
	return min(own, MaxStates)
}

// repeatAdds: how many states a Repeat adds beside those of its Kid, and how often the Kid stands in it.
func repeatAdds(n api.Regex) (int, int) {
	if n.Max < 0 {
		return 2, n.Min + 1
	}
	return 1 + n.Max - n.Min, n.Max
}

// state: one state more.
func (m *maker) state() int {
	m.Edges = append(m.Edges, nil)
	return m.Len() - 1
}

// by: one edge more, by a byte of a set.
func (m *maker) by(from, to int, set class.Set) {
	m.Edges[from] = append(m.Edges[from], Edge{To: to, Set: set})
}

// free: one edge more, by no byte.
func (m *maker) free(from, to int) {
	m.Edges[from] = append(m.Edges[from], Edge{To: to, Free: true})
}

// put: an expression is put behind a state; the state in which it ends: the same one, if it adds none.
func (m *maker) put(n api.Regex, from int) int {
	switch n.Kind {
	case api.One:
		end := m.state()
		m.by(from, end, n.Set)
		return end
	case api.Cat:
		for _, kid := range n.Kids {
			from = m.put(kid, from)
		}
	case api.Alt:
		return m.putAlt(n.Kids, from)
	case api.Repeat:
		return m.putRepeat(n, from)
	}
	return from
}

// putAlt: likewise of some, of which one is taken.
func (m *maker) putAlt(kids []api.Regex, from int) int {
	end := m.state()
	for _, kid := range kids {
		begin := m.state()
		m.free(from, begin)
		m.free(m.put(kid, begin), end)
	}
	return end
}

// putRepeat: likewise of one that comes several times.
func (m *maker) putRepeat(n api.Regex, from int) int {
	kid := n.Kids[0]
	for range n.Min {
		behind := m.put(kid, from)
		if behind == from {
			break // it adds nothing, however often it comes
		}
		from = behind
	}
	end := m.state()
	if n.Max < 0 {
		loop := m.state()
		m.free(from, loop)
		m.free(m.put(kid, loop), loop)
		m.free(loop, end)
		return end
	}
	for range n.Max - n.Min {
		m.free(from, end)
		begin := m.state()
		m.free(from, begin)
		from = m.put(kid, begin)
	}
	m.free(from, end)
	return end
}
