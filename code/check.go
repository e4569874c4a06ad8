package code

import "guipure/api"

const (
	widest   = 8   // how many bytes a Fixed has at most
	mostWays = 255 // that is how many a Choice's bytes can tell apart
)

// Check: may a program be, by its form? If not, at which step.
func Check(p Program) api.Fault {
	if len(p.Steps) == 0 || len(p.Steps) > MaxSteps || !few(p.Slots) || !few(p.Sums) || !few(p.Autos) {
		return api.Fault{Code: api.ErrLong}
	}
	for at := range p.Steps {
		if !p.may(&p.Steps[at]) {
			return api.Fault{Code: api.ErrCode, At: at}
		}
	}
	last := len(p.Steps) - 1
	switch p.Steps[last].Kind {
	case End, Return, Jump:
		return api.Fault{}
	}
	return api.Fault{Code: api.ErrCode, At: last} // it would lead to no step
}

// few: may there be so many slots, sums, or automata?
func few(many int) bool { return 0 <= many && many <= MaxSlots }

// may: may a step be, in a program?
func (p Program) may(s *Step) bool {
	switch s.Kind {
	case Open, Close, Leave, Return, End:
		return true
	case Fixed:
		return 1 <= s.A && s.A <= widest && p.number(s)
	case Varint:
		return p.number(s)
	case Token:
		return among(s.A, p.Autos)
	case Blob, Enter, Count:
		return s.A == none || among(s.A, p.Slots)
	case Next, Jump, Many, Call:
		return p.has(s.A)
	case Mark, Stop:
		return among(s.A, p.Sums)
	case Sum:
		return among(s.A, p.Sums) && among(s.B, p.Slots)
	case Switch:
		return among(s.A, p.Slots) && (s.B == none || p.has(s.B)) && p.forked(s)
	case Choice:
		return p.forked(s) && picked(s)
	}
	return false
}

// has: is there a step of a number?
func (p Program) has(at int) bool { return among(at, len(p.Steps)) }

// number: may a number be kept, and is there one that it may be?
func (p Program) number(s *Step) bool {
	return (s.B == none || among(s.B, p.Slots)) && s.Min <= s.Max
}

// forked: do all ways of a step lead to one, and aren't they too many?
func (p Program) forked(s *Step) bool {
	for _, w := range s.Ways {
		if !p.has(w.To) {
			return false
		}
	}
	return len(s.Ways) <= mostWays
}

// picked: does each byte of a Choice take a way that there is, or none?
func picked(s *Step) bool {
	for _, way := range s.Bytes {
		if int(way) > len(s.Ways) {
			return false
		}
	}
	return true
}
