package feed

import (
	"guipure/api"
	"guipure/code"
	"guipure/dfa"
	"guipure/leb"
	"guipure/octet"
	"guipure/wide"
)

// wait: a part begins, of which bytes are read: must they come first? A Blob may have none.
func (m *Machine) wait(s *code.Step) (bool, api.Fault) {
	if f := m.part(); f.Code != api.OK {
		return false, f
	}
	switch s.Kind {
	case code.Fixed:
		return m.ask(uint64(s.A))
	case code.Varint:
		m.meter = leb.Meter{Lenient: s.Flag}
	case code.Token:
		m.state = 0
	case code.Blob:
		return m.blob(s)
	}
	return m.ask(1)
}

// blob: likewise of so many.
func (m *Machine) blob(s *code.Step) (bool, api.Fault) {
	many, f := m.times(s)
	switch {
	case f.Code != api.OK:
		return false, f
	case many == 0:
		m.leaf()
		return false, api.Fault{}
	}
	return m.ask(many)
}

// ask: so many bytes must come for the step that goes on, if they may.
func (m *Machine) ask(many uint64) (bool, api.Fault) {
	if m.beyond(many) {
		return false, api.Fault{Code: api.ErrLimit, At: m.place}
	}
	m.left = many
	return true, api.Fault{}
}

// take: bytes come for the step that goes on: how many of them are read.
func (m *Machine) take(b []byte) int {
	switch m.now.Kind {
	case code.End:
		m.fault = m.wrong(api.ErrRest)
		return 0
	case code.Many: // there is more
		m.goOn()
		return 0
	}
	room := uint64(max(m.caps.Input, 0) - m.read)
	if room == 0 {
		m.fault = m.wrong(api.ErrInput)
		return 0
	}
	if m.now.Kind == code.Choice {
		m.choice(b[0])
		return 0
	}
	many := int(min(uint64(len(b)), room, m.left))
	m.eat(b[:many])
	waits, f := m.use(b[:many])
	m.fault = f
	if !waits {
		m.goOn()
	}
	return many
}

// choice: on by the next byte, which isn't read yet.
func (m *Machine) choice(c byte) {
	way := int(m.now.Bytes[c]) - 1
	if way == none {
		m.fault = m.wrong(api.ErrChoice)
		return
	}
	m.put(uint64(way))
	m.at = m.now.Ways[way].To
	m.goOn()
}

// eat: bytes are read: all checksums that go on are of these, too.
func (m *Machine) eat(b []byte) {
	m.read += len(b)
	for i := range m.sums {
		m.sums[i].sum = m.table.Add(m.sums[i].sum, b...)
	}
}

// use: bytes that were read are of the step that goes on: must more come for it?
func (m *Machine) use(b []byte) (bool, api.Fault) {
	m.data = append(m.data, b...)
	m.left -= uint64(len(b))
	if m.left > 0 {
		return true, api.Fault{}
	}
	switch m.now.Kind {
	case code.Fixed:
		return false, m.number(octet.Of(m.data, m.now.Flag))
	case code.Varint:
		return m.digit(b[0])
	case code.Token:
		return m.letter(b[0])
	}
	m.leaf()
	return false, api.Fault{}
}

// digit: one byte more of a Varint.
func (m *Machine) digit(c byte) (bool, api.Fault) {
	last, e := m.meter.Step(c)
	switch {
	case e != api.OK:
		return false, api.Fault{Code: e, At: m.place}
	case last:
		return false, m.number(m.meter.Value())
	}
	return m.ask(1)
}

// letter: one byte more of a Token.
func (m *Machine) letter(c byte) (bool, api.Fault) {
	a := m.result.Autos[m.now.A]
	m.state = a.Step(m.state, c)
	switch {
	case m.state == dfa.Dead:
		return false, api.Fault{Code: api.ErrToken, At: m.read - 1}
	case a.Ends(m.state):
		m.leaf()
		return false, api.Fault{}
	}
	return m.ask(1)
}

// number: a number that was read.
func (m *Machine) number(x uint64) api.Fault {
	m.data = nil
	if !wide.Within(x, m.now.Min, m.now.Max) {
		return api.Fault{Code: api.ErrValue, At: m.place}
	}
	if m.now.B != none {
		m.slots[m.now.B] = x
	}
	m.add(api.Tree{Num: x})
	return api.Fault{}
}

// leaf: the bytes that came are all of a Token's, or a Blob's.
func (m *Machine) leaf() {
	m.add(api.Tree{Data: m.data})
	m.data = nil
}
