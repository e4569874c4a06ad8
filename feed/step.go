package feed

import (
	"slices"

	"guipure/api"
	"guipure/code"
	"guipure/crc"
)

// goOn: steps are begun, one behind the other, up to one for which bytes must come, or at which something is wrong.
func (m *Machine) goOn() {
	for waits := false; !waits && m.fault.Code == api.OK; {
		m.now = &m.result.Program.Steps[m.at]
		m.at++
		m.steps++
		waits, m.fault = m.begin(m.now)
	}
}

// begin: a step is begun: must bytes come for it? If they needn't, it is done.
func (m *Machine) begin(s *code.Step) (bool, api.Fault) {
	switch s.Kind {
	case code.Fixed, code.Varint, code.Token, code.Blob, code.Choice:
		return m.wait(s)
	case code.Many:
		return m.many(s), api.Fault{}
	case code.End:
		return true, api.Fault{}
	}
	return false, m.do(s)
}

// do: a step for which no bytes come is done.
func (m *Machine) do(s *code.Step) api.Fault {
	switch s.Kind {
	case code.Open:
		return m.open()
	case code.Close:
		m.close()
	case code.Enter:
		return m.enter(s)
	case code.Leave:
		return m.leave()
	case code.Count:
		return m.count(s)
	case code.Next:
		m.next(s)
	case code.Jump:
		m.at = s.A
	case code.Switch:
		return m.choose(s)
	case code.Call:
		m.calls = append(m.calls, m.at)
		m.at = s.A
	case code.Return:
		last := len(m.calls) - 1
		m.at, m.calls = m.calls[last], m.calls[:last]
	case code.Mark:
		m.sums = append(m.sums, sum{s.A, crc.Start()})
	case code.Stop:
		m.stop(s.A)
	case code.Sum:
		return m.check(s)
	}
	return api.Fault{}
}

// many: a Many goes on up to the limit; where there is none, bytes tell whether there is more.
func (m *Machine) many(s *code.Step) bool {
	if len(m.limits) == 0 {
		return true
	}
	if m.beyond(1) {
		m.at = s.A
	}
	return false
}

// choose: on by a number.
func (m *Machine) choose(s *code.Step) api.Fault {
	x := m.slots[s.A]
	if s.Add != 0 { // the Mod
		x %= s.Add
	}
	way := slices.IndexFunc(s.Ways, func(w code.Way) bool { return w.Value == x })
	switch {
	case way != none:
		m.at = s.Ways[way].To
	case s.B != none:
		m.at = s.B
	default:
		return m.wrong(api.ErrCase)
	}
	return api.Fault{}
}

// stop: a checksum ends.
func (m *Machine) stop(number int) {
	m.sums = slices.DeleteFunc(m.sums, func(s sum) bool {
		if s.number != number {
			return false
		}
		m.ended[number] = s.sum.Value()
		return true
	})
}

// check: the number that was read last must be a checksum.
func (m *Machine) check(s *code.Step) api.Fault {
	if m.slots[s.B] != uint64(m.ended[s.A]) {
		return api.Fault{Code: api.ErrSum, At: m.place}
	}
	return api.Fault{}
}
