package lower

import (
	"guipure/api"
	"guipure/code"
	"guipure/first"
	"guipure/reg"
)

// sum is a checksum of a Record: which field it is, of which first and last one, and its number.
type sum struct{ field, from, to, number int }

// sums: those of a Record, each with a number of its own.
func (m *maker) sums(n api.Node) []sum {
	var out []sum
	for _, s := range reg.Sums(n) {
		out = append(out, sum{field: s[0], from: s[1], to: s[2], number: m.Sum()})
	}
	return out
}

// record: a Record, field by field.
func (m *maker) record(n api.Node) {
	m.put(code.Open)
	sums := m.sums(n)
	for i, f := range n.Fields {
		for _, s := range sums {
			if s.from == i {
				m.Add(code.Step{Kind: code.Mark, A: s.number})
			}
		}
		m.kind(f.Type)
		for _, s := range sums {
			if s.to == i {
				m.Add(code.Step{Kind: code.Stop, A: s.number})
			}
			if s.field == i {
				m.Add(code.Step{Kind: code.Sum, A: s.number, B: m.slots[f.Type]})
			}
		}
	}
	m.put(code.Close)
}

// choose: a Switch, case by case.
func (m *maker) choose(at int) {
	n := m.spec.Nodes[at]
	m.put(code.Open)
	s := code.Step{Kind: code.Switch, A: m.by(at), B: none, Add: n.Mod}
	for _, c := range n.Cases {
		s.Ways = append(s.Ways, code.Way{Value: c.Value})
	}
	step := m.Add(s)
	var ends []int
	for i, c := range n.Cases {
		m.Turn(step, i, m.Here())
		m.kind(c.Type)
		ends = append(ends, m.put(code.Jump))
	}
	if n.Else != none {
		m.Turn(step, none, m.Here())
		m.kind(n.Else)
	}
	m.join(ends)
	m.put(code.Close)
}

// among: a Choice, Kid by Kid; or, of a Chain, again and again up to a Kid that is the last.
func (m *maker) among(n api.Node) {
	s := code.Step{Kind: code.Choice, Bytes: m.bytes(n)}
	for i := range n.Kids {
		s.Ways = append(s.Ways, code.Way{Value: uint64(i)})
	}
	step := m.Add(s)
	var ends []int
	for i, kid := range n.Kids {
		m.Turn(step, i, m.Here())
		m.kind(kid)
		m.put(code.Close)
		jump := m.put(code.Jump)
		if n.Kind == api.Choice || n.Last[i] {
			ends = append(ends, jump)
		} else {
			m.Aim(jump, step)
		}
	}
	m.join(ends)
}

// bytes: of each byte one more than which Kid it begins.
func (m *maker) bytes(n api.Node) [256]uint8 {
	var out [256]uint8
	for c := range out {
		out[c] = uint8(first.Pick(n, m.infos, byte(c)) + 1)
	}
	return out
}
