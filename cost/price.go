package cost

import (
	"guipure/api"
	"guipure/reg"
	"guipure/spec"
)

// capped: a number that is told.
func capped(x uint64) uint64 { return min(x, Most) }

// prices are how many steps types cost a byte.
type prices struct {
	spec  api.Spec
	names map[string]uint64 // of the names ahead what their types cost
}

// whole: how many steps the whole's type of an accepted specification costs.
func whole(s api.Spec) uint64 {
	p := prices{spec: s, names: map[string]uint64{}}
	var out uint64
	for _, d := range s.Defs {
		out = p.kind(d.Type)
		p.names[d.Name] = out
	}
	return out
}

// kind: how many a type costs, its parts too. Even twice Most, and what a type by itself costs, is a number of 64 bits.
func (p prices) kind(at int) uint64 {
	n := p.spec.Nodes[at]
	own, often := price(n)
	return capped(own + often*p.parts(n))
}

// parts: how many those of a type cost together; of a Use its name's type.
func (p prices) parts(n api.Node) uint64 {
	if n.Kind == api.Use {
		return p.names[n.Text]
	}
	var out uint64
	for _, part := range spec.Kids(n) {
		out = capped(out + p.kind(part))
	}
	return out
}

// price: how many steps a type by itself costs, and how often those of its parts count.
func price(n api.Node) (own, often uint64) {
	switch n.Kind {
	case api.Record: // a Mark, a Stop and a Sum for each checksum
		return 2 + 3*uint64(len(reg.Sums(n))), 1
	case api.Times, api.Many: // again and again: what a part costs without a byte comes once more for each byte
		return 5, 2
	case api.Chain:
		return 6, 2
	case api.Switch:
		return 4, 1
	case api.Choice:
		return 3, 1
	case api.Within, api.Empty, api.Use:
		return 2, 1
	}
	return 1, 1
}
