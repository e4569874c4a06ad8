package sample

import (
	"math"

	"guipure/code"
)

// Program: a program that may be, of up to so many steps.
func (m *Maker) Program(most int) code.Program {
	p := code.Program{Slots: 1 + m.UpTo(3), Sums: 1 + m.UpTo(3), Autos: 1 + m.UpTo(3)}
	many := 1 + m.UpTo(most)
	for range many - 1 {
		p.Steps = append(p.Steps, m.step(p, code.Open+m.UpTo(code.End), many))
	}
	ends := []int{code.End, code.Return, code.Jump}
	p.Steps = append(p.Steps, m.step(p, ends[m.UpTo(len(ends))], many))
	return p
}

// step: one of a kind, in a program of so many steps.
func (m *Maker) step(p code.Program, kind, many int) code.Step {
	s := code.Step{Kind: kind}
	switch kind {
	case code.Fixed, code.Varint:
		if kind == code.Fixed {
			s.A = 1 + m.UpTo(widest)
		}
		s.B, s.Flag = m.UpTo(p.Slots+1)-1, m.UpTo(2) == 0
		s.Min, s.Max = m.ends(math.MaxUint64)
	case code.Token:
		s.A = m.UpTo(p.Autos)
	case code.Blob, code.Enter, code.Count:
		s.A, s.Mul, s.Add = m.UpTo(p.Slots+1)-1, m.Number(math.MaxUint64), m.Number(math.MaxUint64)
	case code.Next, code.Jump, code.Many, code.Call:
		s.A = m.UpTo(many)
	case code.Mark, code.Stop, code.Sum:
		s.A = m.UpTo(p.Sums)
		if kind == code.Sum {
			s.B = m.UpTo(p.Slots)
		}
	case code.Switch:
		s.A, s.B, s.Add = m.UpTo(p.Slots), m.UpTo(many+1)-1, m.Number(math.MaxUint64)
		s.Ways = m.ways(many)
	case code.Choice:
		s.Ways = m.ways(many)
		for range m.UpTo(20) {
			s.Bytes[m.UpTo(len(s.Bytes))] = uint8(m.UpTo(len(s.Ways) + 1))
		}
	}
	return s
}

// ways: some to steps of a program of so many; none, too.
func (m *Maker) ways(many int) []code.Way {
	var out []code.Way
	for range m.UpTo(4) {
		out = append(out, code.Way{Value: m.Number(math.MaxUint64), To: m.UpTo(many)})
	}
	return out
}
