package cost_test

import (
	"math/big"

	"guipure/api"
	"guipure/cost"
	"guipure/scope"
	"guipure/spec"
)

// row is what a type's own steps cost, and how often those of its parts count.
type row struct{ own, often int64 }

// rows: of each kind.
func rows() map[int]row {
	return map[int]row{
		api.Fixed: {1, 0}, api.Varint: {1, 0}, api.Token: {1, 0}, api.Blob: {1, 0}, api.Empty: {2, 0},
		api.Record: {2, 1}, api.Times: {5, 2}, api.Many: {5, 2}, api.Within: {2, 1},
		api.Switch: {4, 1}, api.Choice: {3, 1}, api.Chain: {6, 2}, api.Use: {2, 1},
	}
}

// tally goes through a specification from the whole's type down: each type's own steps count so often as those around it tell.
type tally struct {
	spec  api.Spec
	rows  map[int]row
	names map[string]*big.Int // of each name that was met how often its type counts
	total *big.Int
}

// kind: a type that counts so often.
func (y *tally) kind(at int, often *big.Int) {
	n := y.spec.Nodes[at]
	own := y.rows[n.Kind].own
	for _, f := range n.Fields {
		if f.Derive == api.SumOf {
			own += 3
		}
	}
	y.total.Add(y.total, new(big.Int).Mul(often, big.NewInt(own)))
	parts := new(big.Int).Mul(often, big.NewInt(y.rows[n.Kind].often))
	if n.Kind == api.Use {
		y.name(n.Text, parts)
	}
	for _, part := range spec.Kids(n) {
		y.kind(part, parts)
	}
}

// name: one counts so often more.
func (y *tally) name(name string, often *big.Int) {
	sum := new(big.Int).Set(often)
	if so := y.names[name]; so != nil {
		sum.Add(sum, so)
	}
	y.names[name] = sum
}

// steps: what an accepted specification costs a byte. Names are used behind their types alone, so from the last one on it is known how often each counts.
func steps(s api.Spec) uint64 {
	y := tally{spec: s, rows: rows(), names: map[string]*big.Int{}, total: big.NewInt(1)}
	last := len(s.Defs) - 1
	y.name(s.Defs[last].Name, big.NewInt(1))
	for i := last; i >= 0; i-- {
		if often := y.names[s.Defs[i].Name]; often != nil {
			y.kind(s.Defs[i].Type, often)
		}
	}
	if most := big.NewInt(cost.Most); y.total.Cmp(most) > 0 {
		return cost.Most
	}
	return y.total.Uint64()
}

// bound: what an accepted specification costs.
func bound(s api.Spec) cost.Bound {
	deep, sums := scope.Deep(s), 0
	for _, n := range s.Nodes {
		for _, f := range n.Fields {
			if f.Derive == api.SumOf {
				sums++
			}
		}
	}
	return cost.Bound{Steps: steps(s), Held: 5*deep + 5 + sums + len(s.Defs) + 20, Deep: deep}
}

// limit: how many steps so many bytes take at most.
func limit(b cost.Bound, many int) uint64 {
	out := big.NewInt(int64(max(many, 0)))
	out.Add(out, big.NewInt(1))
	out.Mul(out, new(big.Int).SetUint64(b.Steps))
	if most := big.NewInt(cost.Most); out.Cmp(most) > 0 {
		return cost.Most
	}
	return out.Uint64()
}
