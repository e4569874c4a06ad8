package size

import (
	"guipure/api"
	"guipure/dfa"
	"guipure/leb"
	"guipure/scope"
	"guipure/spec"
)

// room is how many bytes a type may have, and how many parts.
type room struct{ bytes, parts span }

// leaf: a type without parts of its own.
func leaf(bytes span) room { return room{bytes: bytes, parts: just(1)} }

// in: likewise, but so many parts are around it.
func (r room) in(around uint64) room {
	r.parts = r.parts.plus(just(around))
	return r
}

// times: as often as is told.
func (r room) times(often span) room {
	return room{bytes: r.bytes.times(often), parts: r.parts.times(often)}
}

// measurer measures types, each behind its parts.
type measurer struct {
	spec  api.Spec
	autos map[int]*dfa.Auto // of each Token
	rooms []room            // of those that were measured
}

// kind: a type, and all of which it is made.
func (m *measurer) kind(at int) {
	for _, part := range spec.Kids(m.spec.Nodes[at]) {
		m.kind(part)
	}
	m.rooms[at] = m.measured(at)
}

// measured: a type whose parts are.
func (m *measurer) measured(at int) room {
	n := m.spec.Nodes[at]
	switch n.Kind {
	case api.Fixed:
		return leaf(just(uint64(n.Width)))
	case api.Varint:
		return leaf(varint(n))
	case api.Token:
		return leaf(lengths(m.autos[at]))
	case api.Blob:
		return leaf(counted(n.Expr))
	case api.Record:
		return m.record(n).in(1)
	case api.Times:
		return m.rooms[n.Kids[0]].times(counted(n.Expr)).in(1)
	case api.Many:
		return m.rooms[n.Kids[0]].times(span{0, Endless}).in(1)
	case api.Within:
		return room{bytes: counted(n.Expr), parts: m.rooms[n.Kids[0]].parts}.in(1)
	case api.Switch, api.Choice:
		return m.either(spec.Kids(n)).in(1)
	case api.Chain:
		return m.chain(n)
	case api.Use:
		return m.rooms[scope.Target(m.spec, at)]
	}
	return leaf(just(0))
}

// varint: how many bytes the numbers of a range have.
func varint(n api.Node) span {
	out := span{uint64(leb.Len(n.Min)), uint64(leb.Len(n.Max))}
	if n.Lenient {
		out.most = leb.MaxLen
	}
	return out
}

// record: all fields together.
func (m *measurer) record(n api.Node) room {
	var out room
	for _, f := range n.Fields {
		field := m.rooms[f.Type]
		out = room{bytes: out.bytes.plus(field.bytes), parts: out.parts.plus(field.parts)}
	}
	return out
}

// either: one of some types, one at least.
func (m *measurer) either(kinds []int) room {
	out := m.rooms[kinds[0]]
	for _, kind := range kinds[1:] {
		other := m.rooms[kind]
		out = room{bytes: out.bytes.or(other.bytes), parts: out.parts.or(other.parts)}
	}
	return out
}

// chain: a last one, and ahead of it any number of others, if there are others.
func (m *measurer) chain(n api.Node) room {
	var lasts []int
	for i, kid := range n.Kids {
		if n.Last[i] {
			lasts = append(lasts, kid)
		}
	}
	out := m.either(lasts)
	if len(lasts) < len(n.Kids) {
		out.bytes.most, out.parts.most = Endless, Endless
	}
	return out.in(2) // the Chain, and its part that has the last one
}
