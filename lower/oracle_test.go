package lower_test

import (
	"slices"

	"guipure/api"
	"guipure/code"
	"guipure/first"
	"guipure/lower"
	"guipure/reg"
	"guipure/spec"
)

// layout tells where each type's steps stand, by how many each has, and what they are. Which slots, sums and automata there are the result itself tells.
type layout struct {
	s      api.Spec
	r      *lower.Result
	infos  []first.Info
	begins map[string]int // of each name its first step
	steps  []code.Step
	sums   []int // those of all checksums
	autos  []int // those of all Tokens
}

// many: how many steps a type has.
func (l *layout) many(at int) int {
	n := l.s.Nodes[at]
	out := 0
	for _, part := range spec.Kids(n) {
		out += l.many(part)
	}
	switch n.Kind {
	case api.Record:
		return out + 2 + 3*len(reg.Sums(n))
	case api.Times, api.Many:
		return out + 4
	case api.Within, api.Empty:
		return out + 2
	case api.Switch:
		return out + 3 + len(n.Cases)
	case api.Choice:
		return out + 1 + 2*len(n.Kids)
	case api.Chain:
		return out + 3 + 2*len(n.Kids)
	}
	return 1
}

// put: steps that are told by their kinds, and A alone.
func (l *layout) put(kind, a int) {
	l.steps = append(l.steps, code.Step{Kind: kind, A: a})
}

// at: the step of the result that stands where the next one is put.
func (l *layout) at() code.Step {
	if here := len(l.steps); here < len(l.r.Program.Steps) {
		return l.r.Program.Steps[here]
	}
	return code.Step{}
}

// slot: that of the number by which a type goes.
func (l *layout) slot(at int) int {
	by, ok := reg.By(l.s, at)
	if !ok {
		return -1
	}
	return l.r.Slots[l.s.Nodes[by.Record].Fields[by.Field].Type]
}

// count: a step that tells how many.
func (l *layout) count(kind, at int) {
	x := l.s.Nodes[at].Expr
	l.steps = append(l.steps, code.Step{Kind: kind, A: l.slot(at), Mul: x.Mul, Add: x.Add})
}

// kind: a type's steps.
func (l *layout) kind(at int) {
	n := l.s.Nodes[at]
	begin, many := len(l.steps), l.many(at)
	switch n.Kind {
	case api.Fixed:
		l.steps = append(l.steps, code.Step{Kind: code.Fixed, A: n.Width, B: l.r.Slots[at], Flag: n.Little, Min: n.Min, Max: n.Max})
	case api.Varint:
		l.steps = append(l.steps, code.Step{Kind: code.Varint, B: l.r.Slots[at], Flag: n.Lenient, Min: n.Min, Max: n.Max})
	case api.Token:
		l.autos = append(l.autos, l.at().A)
		l.put(code.Token, l.at().A)
	case api.Blob:
		l.count(code.Blob, at)
	case api.Record:
		l.record(n)
	case api.Times:
		l.count(code.Count, at)
		l.put(code.Next, begin+many-1)
		l.kind(n.Kids[0])
		l.put(code.Jump, begin+1)
		l.put(code.Close, 0)
	case api.Many:
		l.put(code.Open, 0)
		l.put(code.Many, begin+many-1)
		l.kind(n.Kids[0])
		l.put(code.Jump, begin+1)
		l.put(code.Close, 0)
	case api.Within:
		l.count(code.Enter, at)
		l.kind(n.Kids[0])
		l.put(code.Leave, 0)
	case api.Switch:
		l.choose(at)
	case api.Choice:
		l.among(n, slices.Repeat([]int{begin + many}, len(n.Kids)))
	case api.Chain:
		back := make([]int, len(n.Kids))
		for i, last := range n.Last {
			back[i] = begin + 1
			if last {
				back[i] = begin + many - 1
			}
		}
		l.put(code.Open, 0)
		l.among(n, back)
		l.put(code.Close, 0)
	case api.Empty:
		l.put(code.Open, 0)
		l.put(code.Close, 0)
	case api.Use:
		l.put(code.Call, l.begins[n.Text])
	}
}

// record: a Record's steps.
func (l *layout) record(n api.Node) {
	sums := reg.Sums(n)
	which := make([]int, len(sums))
	l.put(code.Open, 0)
	for i, f := range n.Fields {
		for k, s := range sums {
			if s[1] == i {
				which[k] = l.at().A // each has another one
				l.sums = append(l.sums, which[k])
				l.put(code.Mark, which[k])
			}
		}
		l.kind(f.Type)
		for k, s := range sums {
			switch i {
			case s[2]:
				l.put(code.Stop, which[k])
			case s[0]:
				l.steps = append(l.steps, code.Step{Kind: code.Sum, A: which[k], B: l.r.Slots[f.Type]})
			}
		}
	}
	l.put(code.Close, 0)
}

// choose: a Switch's steps.
func (l *layout) choose(at int) {
	n := l.s.Nodes[at]
	begin := len(l.steps)
	behind := begin + l.many(at) - 1
	s := code.Step{Kind: code.Switch, A: l.slot(at), B: -1, Add: n.Mod}
	next := begin + 2
	for _, c := range n.Cases {
		s.Ways = append(s.Ways, code.Way{Value: c.Value, To: next})
		next += l.many(c.Type) + 1
	}
	if n.Else >= 0 {
		s.B = next
	}
	l.put(code.Open, 0)
	l.steps = append(l.steps, s)
	for _, c := range n.Cases {
		l.kind(c.Type)
		l.put(code.Jump, behind)
	}
	if n.Else >= 0 {
		l.kind(n.Else)
	}
	l.put(code.Close, 0)
}

// among: a Choice's steps, behind each Kid of which it goes on at another step.
func (l *layout) among(n api.Node, ends []int) {
	s := code.Step{Kind: code.Choice}
	next := len(l.steps) + 1
	for i, kid := range n.Kids {
		s.Ways = append(s.Ways, code.Way{Value: uint64(i), To: next})
		next += l.many(kid) + 2
		for c := range l.infos[kid].First.Each {
			s.Bytes[c] = uint8(i + 1)
		}
	}
	l.steps = append(l.steps, s)
	for i, kid := range n.Kids {
		l.kind(kid)
		l.put(code.Close, 0)
		l.put(code.Jump, ends[i])
	}
}

// lay: all steps of an accepted specification.
func lay(s api.Spec, r *lower.Result) *layout {
	infos, _ := first.Infos(s)
	l := &layout{s: s, r: r, infos: infos, begins: map[string]int{}}
	last := len(s.Defs) - 1
	next := l.many(s.Defs[last].Type) + 1
	for _, d := range s.Defs[:last] {
		l.begins[d.Name] = next
		next += l.many(d.Type) + 1
	}
	l.kind(s.Defs[last].Type)
	l.put(code.End, 0)
	for _, d := range s.Defs[:last] {
		l.kind(d.Type)
		l.put(code.Return, 0)
	}
	return l
}
