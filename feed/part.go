package feed

import (
	"guipure/api"
	"guipure/code"
	"guipure/wide"
)

const (
	none     = -1        // a slot, or a step, that there isn't
	furthest = 1<<62 - 1 // the byte at which a limit is at most
)

// part: a part begins.
func (m *Machine) part() api.Fault {
	m.place = m.read
	switch {
	case len(m.parts) >= m.caps.Depth: // it is one deeper than these
		return m.wrong(api.ErrDepth)
	case m.began >= m.caps.Tokens:
		return m.wrong(api.ErrTokens)
	}
	m.began++
	return api.Fault{}
}

// open: a part begins that isn't closed so soon.
func (m *Machine) open() api.Fault {
	f := m.part()
	if f.Code == api.OK {
		m.put(0)
	}
	return f
}

// put: the part that began last isn't closed; its number.
func (m *Machine) put(number uint64) {
	m.parts = append(m.parts, api.Tree{Num: number})
}

// close: of the parts that aren't closed the one that began last ends.
func (m *Machine) close() {
	last := len(m.parts) - 1
	t := m.parts[last]
	m.parts[last] = api.Tree{} // what was answered isn't kept
	m.parts = m.parts[:last]
	m.add(t)
}

// add: a part that ended is one of what it is in; it is the whole, if that is nothing.
func (m *Machine) add(t api.Tree) {
	if len(m.parts) == 0 {
		m.whole = t
		return
	}
	in := &m.parts[len(m.parts)-1]
	in.Kids = append(in.Kids, t)
}

// times: how many, by a step.
func (m *Machine) times(s *code.Step) (uint64, api.Fault) {
	if s.A == none {
		return s.Add, api.Fault{}
	}
	n, e := wide.Line(s.Mul, m.slots[s.A], s.Add)
	if e != api.OK {
		return 0, m.wrong(e)
	}
	return n, api.Fault{}
}

// beyond: do so many bytes more go beyond the limit?
func (m *Machine) beyond(many uint64) bool {
	last := len(m.limits) - 1
	return last >= 0 && many > m.limits[last]-uint64(m.read)
}

// enter: a part that has just so many bytes.
func (m *Machine) enter(s *code.Step) api.Fault {
	if f := m.open(); f.Code != api.OK {
		return f
	}
	many, f := m.times(s)
	switch {
	case f.Code != api.OK:
		return f
	case m.beyond(many):
		return m.wrong(api.ErrLimit)
	}
	at := uint64(m.read)
	m.limits = append(m.limits, at+min(many, furthest-at))
	return api.Fault{}
}

// leave: it ends, and must be at its limit.
func (m *Machine) leave() api.Fault {
	last := len(m.limits) - 1
	if uint64(m.read) != m.limits[last] {
		return m.wrong(api.ErrLimit)
	}
	m.limits = m.limits[:last]
	m.close()
	return api.Fault{}
}

// count: a part that has so many parts.
func (m *Machine) count(s *code.Step) api.Fault {
	if f := m.open(); f.Code != api.OK {
		return f
	}
	many, f := m.times(s)
	if f.Code != api.OK {
		return f
	}
	m.counts = append(m.counts, many)
	return api.Fault{}
}

// next: one of these; or there is none any more.
func (m *Machine) next(s *code.Step) {
	last := len(m.counts) - 1
	if m.counts[last] == 0 {
		m.counts, m.at = m.counts[:last], s.A
		return
	}
	m.counts[last]--
}
