package code_test

import (
	"math"

	"guipure/api"
	"guipure/code"
)

// span is the numbers from one to another one.
type span struct{ low, high int }

// has: is a number one of these?
func (s span) has(x int) bool { return s.low <= x && x <= s.high }

// rule is what a kind's steps must be like: their A and B, whether they have a range, and ways, and bytes.
type rule struct {
	a, b                span
	ranged, ways, bytes bool
}

// rules: of each kind its rule, in a program.
func rules(p code.Program) map[int]rule {
	whatever := span{math.MinInt, math.MaxInt}
	step, slot, sum := span{0, len(p.Steps) - 1}, span{0, p.Slots - 1}, span{0, p.Sums - 1}
	orNone := func(s span) span { return span{-1, s.high} }
	free := rule{a: whatever, b: whatever}
	counts := rule{a: orNone(slot), b: whatever}
	leads := rule{a: step, b: whatever}
	sums := rule{a: sum, b: whatever}
	return map[int]rule{
		code.Open: free, code.Close: free, code.Leave: free, code.Return: free, code.End: free,
		code.Fixed:  {a: span{1, 8}, b: orNone(slot), ranged: true},
		code.Varint: {a: whatever, b: orNone(slot), ranged: true},
		code.Token:  {a: span{0, p.Autos - 1}, b: whatever},
		code.Blob:   counts, code.Enter: counts, code.Count: counts,
		code.Next: leads, code.Jump: leads, code.Many: leads, code.Call: leads,
		code.Mark: sums, code.Stop: sums,
		code.Sum:    {a: sum, b: slot},
		code.Switch: {a: slot, b: orNone(step), ways: true},
		code.Choice: {a: whatever, b: whatever, ways: true, bytes: true},
	}
}

// obeys: is a step like its rule?
func (r rule) obeys(s code.Step, steps int) bool {
	ok := r.a.has(s.A) && r.b.has(s.B) && !(r.ranged && s.Min > s.Max) && !(r.ways && len(s.Ways) > 255)
	for _, w := range s.Ways {
		ok = ok && (!r.ways || span{0, steps - 1}.has(w.To))
	}
	for _, way := range s.Bytes {
		ok = ok && (!r.bytes || int(way) <= len(s.Ways))
	}
	return ok
}

// check: what layer 19 tells of a program.
func check(p code.Program) api.Fault {
	few := span{0, 4096}
	if !(span{1, 65536}).has(len(p.Steps)) || !few.has(p.Slots) || !few.has(p.Sums) || !few.has(p.Autos) {
		return api.Fault{Code: api.ErrLong}
	}
	all := rules(p)
	for at, s := range p.Steps {
		if r, ok := all[s.Kind]; !ok || !r.obeys(s, len(p.Steps)) {
			return api.Fault{Code: api.ErrCode, At: at}
		}
	}
	last := len(p.Steps) - 1
	if kind := p.Steps[last].Kind; kind != code.End && kind != code.Return && kind != code.Jump {
		return api.Fault{Code: api.ErrCode, At: last}
	}
	return api.Fault{}
}

// to: does a step lead to another one?
func to(p code.Program, from, at int) bool {
	s := p.Steps[from]
	for _, w := range s.Ways {
		if w.To == at && (s.Kind == code.Switch || s.Kind == code.Choice) {
			return true
		}
	}
	switch s.Kind {
	case code.Jump:
		return at == s.A
	case code.Next, code.Many, code.Call:
		return at == s.A || at == from+1
	case code.Switch:
		return at == s.B
	case code.Choice, code.Return, code.End:
		return false
	}
	return at == from+1
}

// reached: what layer 19 tells of a program's steps, found by looking for one more as long as there is one.
func reached(p code.Program) []bool {
	met := make([]bool, len(p.Steps))
	if check(p).Code != api.OK {
		return met
	}
	met[0] = true
	for more := true; more; {
		more = false
		for from := range p.Steps {
			for at := range p.Steps {
				if met[from] && !met[at] && to(p, from, at) {
					met[at], more = true, true
				}
			}
		}
	}
	return met
}
