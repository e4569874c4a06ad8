package sample

import (
	"math"

	"guipure/api"
)

// widest is how many bytes a number has at most.
const widest = 8

// Spec: a specification that may be, of up to three names, whose types are up to so deep; each type stands behind its parts. Its names are names, but needn't be right.
func (m *Maker) Spec(deep int) api.Spec {
	var s api.Spec
	for range 1 + m.UpTo(3) {
		at := m.kind(&s, deep)
		s.Defs = append(s.Defs, api.Def{Name: m.Name(), Type: at})
	}
	return s
}

// Name: one of few names, so that some come often.
func (m *Maker) Name() string {
	list := []string{"a", "b", "c", "_", "Bytes", "u8be", "u16", "lasts", "x_0123456789_ABCDEFGHIJK"}
	return list[m.UpTo(len(list))]
}

// Number: an edge, a small number, or any one, up to a most one.
func (m *Maker) Number(most uint64) uint64 {
	switch m.UpTo(5) {
	case 0:
		return 0
	case 1:
		return most
	case 2:
		return min(most, uint64(m.UpTo(10)))
	}
	n := uint64(m.UpTo(1<<16)) << (16 * m.UpTo(4))
	if most == math.MaxUint64 {
		return n
	}
	return n % (most + 1)
}

// kind: a type more, up to so deep, behind its parts: its number.
func (m *Maker) kind(s *api.Spec, deep int) int {
	var n api.Node
	if kind := api.Fixed + m.UpTo(api.Use); deep > 0 {
		n = m.node(s, kind, deep-1)
	} else {
		n = m.leaf(kind)
	}
	s.Nodes = append(s.Nodes, n)
	return len(s.Nodes) - 1
}

// leaf: a type without parts, of a kind if that has none.
func (m *Maker) leaf(kind int) api.Node {
	n := api.Node{Kind: kind}
	switch kind {
	case api.Fixed:
		n.Width = 1 + m.UpTo(widest)
		n.Little = n.Width > 1 && m.UpTo(2) == 0
		n.Min, n.Max = m.ends(math.MaxUint64 >> (8 * (widest - n.Width)))
	case api.Varint:
		n.Zig, n.Lenient = m.UpTo(2) == 0, m.UpTo(2) == 0
		n.Min, n.Max = m.ends(math.MaxUint64)
	case api.Token:
		list := []string{"a", "[a-z]+;", " #", `\x00|\"`, "(", "~"}
		n.Text = list[m.UpTo(len(list))]
	case api.Blob:
		n.Expr = m.expr()
	case api.Use:
		n.Text = m.Name()
	default:
		n.Kind = api.Empty
	}
	return n
}

// node: a type of a kind, its parts up to so deep.
func (m *Maker) node(s *api.Spec, kind, deep int) api.Node {
	n := api.Node{Kind: kind}
	switch kind {
	case api.Record:
		n.Fields = m.fields(s, deep)
	case api.Times, api.Within:
		n.Expr = m.expr()
		n.Kids = []int{m.kind(s, deep)}
	case api.Many:
		n.Kids = []int{m.kind(s, deep)}
	case api.Switch:
		m.choose(s, &n, deep)
	case api.Choice, api.Chain:
		for range 1 + m.UpTo(4) {
			n.Kids = append(n.Kids, m.kind(s, deep))
			if kind == api.Chain {
				n.Last = append(n.Last, m.UpTo(2) == 0)
			}
		}
	default:
		return m.leaf(kind)
	}
	return n
}

// choose: what a Switch has.
func (m *Maker) choose(s *api.Spec, n *api.Node, deep int) {
	n.Reg, n.Mod, n.Else = m.Name(), m.Number(math.MaxUint64), -1
	for range 1 + m.UpTo(3) {
		n.Cases = append(n.Cases, api.Case{Value: m.Number(math.MaxUint64), Type: m.kind(s, deep)})
	}
	if m.UpTo(2) == 0 {
		n.Else = m.kind(s, deep)
	}
}

// fields: those of a Record.
func (m *Maker) fields(s *api.Spec, deep int) []api.Field {
	var out []api.Field
	for range 1 + m.UpTo(4) {
		f := api.Field{Name: m.Name(), Type: m.kind(s, deep), Derive: m.UpTo(api.SumOf + 1)}
		if f.Derive != api.Plain {
			f.Of = m.Name()
		}
		if f.Derive == api.SumOf {
			f.To = m.Name()
		}
		out = append(out, f)
	}
	return out
}

// expr: how many.
func (m *Maker) expr() api.Expr {
	x := api.Expr{Add: m.Number(math.MaxUint64)}
	if m.UpTo(2) == 0 {
		x.Reg, x.Mul = m.Name(), max(1, m.Number(math.MaxUint64))
	}
	return x
}

// ends: a range's, up to a most number; that is often all of it.
func (m *Maker) ends(most uint64) (uint64, uint64) {
	if m.UpTo(2) == 0 {
		return 0, most
	}
	a, b := m.Number(most), m.Number(most)
	return min(a, b), max(a, b)
}
