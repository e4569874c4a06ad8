package lower

import (
	"guipure/api"
	"guipure/code"
	"guipure/dfa"
	"guipure/first"
	"guipure/reg"
	"guipure/spec"
)

// none is a slot, or a step, that there isn't.
const none = -1

// maker puts the program of an accepted specification together.
type maker struct {
	code.Maker
	spec   api.Spec
	infos  []first.Info
	tokens map[int]*dfa.Auto // of each Token
	links  map[int]reg.Link  // of each type that goes by a number
	slots  map[int]int       // of each number so far
	autos  []*dfa.Auto       // so far
	calls  map[int]int       // of each Call, by its step: the type that is called
	begins map[int]int       // of each name's type: its first step
}

// names: the whole's type, and those of all other names. Where these begin is known behind them alone.
func (m *maker) names() {
	last := len(m.spec.Defs) - 1
	m.name(m.spec.Defs[last], code.End)
	for _, d := range m.spec.Defs[:last] {
		m.name(d, code.Return)
	}
	for step, kind := range m.calls {
		m.Aim(step, m.begins[kind])
	}
}

// name: a name's type, and what is behind it.
func (m *maker) name(d api.Def, behind int) {
	m.begins[d.Type] = m.Here()
	m.kind(d.Type)
	m.put(behind)
}

// put: a step that is its kind alone.
func (m *maker) put(kind int) int { return m.Add(code.Step{Kind: kind}) }

// kind: the steps of a type.
func (m *maker) kind(at int) {
	n := m.spec.Nodes[at]
	switch n.Kind {
	case api.Fixed:
		m.number(at, code.Step{Kind: code.Fixed, A: n.Width, Flag: n.Little})
	case api.Varint:
		m.number(at, code.Step{Kind: code.Varint, Flag: n.Lenient})
	case api.Token:
		m.token(at)
	case api.Blob:
		m.count(at, code.Blob)
	case api.Record:
		m.record(n)
	case api.Times:
		m.count(at, code.Count)
		m.loop(code.Next, n.Kids[0])
	case api.Many:
		m.put(code.Open)
		m.loop(code.Many, n.Kids[0])
	case api.Within:
		m.count(at, code.Enter)
		m.kind(n.Kids[0])
		m.put(code.Leave)
	case api.Switch:
		m.choose(at)
	case api.Choice:
		m.among(n)
	case api.Chain:
		m.put(code.Open)
		m.among(n)
		m.put(code.Close)
	case api.Empty:
		m.put(code.Open)
		m.put(code.Close)
	case api.Use:
		m.calls[m.put(code.Call)] = spec.Def(m.spec, n.Text)
	}
}

// number: a number's step, which keeps it in a slot of its own.
func (m *maker) number(at int, s code.Step) {
	n := m.spec.Nodes[at]
	s.B, s.Min, s.Max = m.Slot(), n.Min, n.Max
	m.slots[at] = s.B
	m.Add(s)
}

// token: likewise of bytes by an expression.
func (m *maker) token(at int) {
	m.autos = append(m.autos, m.tokens[at])
	m.Add(code.Step{Kind: code.Token, A: m.Auto()})
}

// by: the slot of the number by which a type goes; -1: it goes by none.
func (m *maker) by(at int) int {
	l, ok := m.links[at]
	if !ok {
		return none
	}
	return m.slots[m.spec.Nodes[l.Record].Fields[l.Field].Type] // it is ahead of the type, and so has its slot
}

// count: a step of a kind that tells how many.
func (m *maker) count(at, kind int) {
	x := m.spec.Nodes[at].Expr
	m.Add(code.Step{Kind: kind, A: m.by(at), Mul: x.Mul, Add: x.Add})
}

// loop: a type again and again, as long as a step of a kind tells.
func (m *maker) loop(kind, kid int) {
	again := m.put(kind)
	m.kind(kid)
	m.Aim(m.put(code.Jump), again)
	m.Aim(again, m.put(code.Close))
}

// join: some steps go on at that which comes next.
func (m *maker) join(steps []int) {
	for _, step := range steps {
		m.Aim(step, m.Here())
	}
}
