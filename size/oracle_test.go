package size_test

import (
	"math/big"

	"guipure/api"
	"guipure/auto"
	"guipure/dfa"
	"guipure/leb"
	"guipure/regex"
	"guipure/size"
	"guipure/spec"
)

// most is how many there are at most: nil: there is no most.
type most *big.Int

// number is how few, and how many, reckoned without end.
type number struct {
	few  *big.Int
	many most
}

// exact: just so many.
func exact(n uint64) number {
	x := new(big.Int).SetUint64(n)
	return number{x, x}
}

// and: both together.
func and(a, b number) number {
	out := number{few: new(big.Int).Add(a.few, b.few)}
	if a.many != nil && b.many != nil {
		out.many = new(big.Int).Add(a.many, b.many)
	}
	return out
}

// often: one as often as the other one tells.
func often(a, b number) number {
	out := number{few: new(big.Int).Mul(a.few, b.few)}
	zero := func(m most) bool { return m != nil && (*big.Int)(m).Sign() == 0 }
	switch {
	case zero(a.many) || zero(b.many):
		out.many = new(big.Int)
	case a.many != nil && b.many != nil:
		out.many = new(big.Int).Mul(a.many, b.many)
	}
	return out
}

// or: one of both.
func or(a, b number) number {
	out := a
	if b.few.Cmp(a.few) < 0 {
		out.few = b.few
	}
	if a.many != nil && (b.many == nil || (*big.Int)(b.many).Cmp(a.many) > 0) {
		out.many = b.many
	}
	return out
}

// capped: a number of 64 bits.
func capped(x *big.Int) uint64 {
	if endless := big.NewInt(size.Endless); x == nil || x.Cmp(endless) > 0 {
		x = endless
	}
	return x.Uint64()
}

// by: how many an expression tells.
func by(x api.Expr) number {
	out := exact(x.Add)
	if x.Reg != "" {
		out.many = nil
	}
	return out
}

// bounds: those of a type of an accepted specification, found by going down from it each time.
func bounds(s api.Spec, at int) size.Bounds {
	b, p := measure(s, at)
	return size.Bounds{Least: capped(b.few), Most: capped(b.many), Fewest: capped(p.few), Parts: capped(p.many)}
}

// measure: how many bytes, and how many parts.
func measure(s api.Spec, at int) (number, number) {
	n, one := s.Nodes[at], exact(1)
	switch n.Kind {
	case api.Use:
		return measure(s, spec.Def(s, n.Text))
	case api.Fixed:
		return exact(uint64(n.Width)), one
	case api.Varint:
		from, to := leb.Len(n.Min), leb.Len(n.Max)
		if n.Lenient {
			to = 10
		}
		return or(exact(uint64(from)), exact(uint64(to))), one
	case api.Token:
		return token(n.Text), one
	case api.Blob:
		return by(n.Expr), one
	case api.Within:
		_, p := measure(s, n.Kids[0])
		return by(n.Expr), and(p, one)
	case api.Times, api.Many:
		how := by(n.Expr)
		if n.Kind == api.Many {
			how = number{few: new(big.Int)}
		}
		b, p := measure(s, n.Kids[0])
		return often(b, how), and(often(p, how), one)
	case api.Record:
		b, p := exact(0), one
		for _, f := range n.Fields {
			c, q := measure(s, f.Type)
			b, p = and(b, c), and(p, q)
		}
		return b, p
	case api.Switch, api.Choice, api.Chain:
		return among(s, n)
	}
	return exact(0), one
}

// token: how many bytes those have for which a text's expression stands.
func token(text string) number {
	x, _ := regex.Parse(text)
	a, _ := dfa.Of(x)
	short, _ := auto.Shortest(a)
	out := exact(uint64(len(short)))
	out.many = nil
	if long := auto.Longest(a); long >= 0 {
		out.many = big.NewInt(int64(long))
	}
	return out
}

// among: of a type that is one of some, or some up to a last one.
func among(s api.Spec, n api.Node) (number, number) {
	var b, p number
	for i, kid := range spec.Kids(n) {
		c, q := measure(s, kid)
		switch {
		case n.Kind == api.Chain && !n.Last[i]:
		case b.few == nil:
			b, p = c, q
		default:
			b, p = or(b, c), or(p, q)
		}
	}
	if n.Kind != api.Chain {
		return b, and(p, exact(1))
	}
	for _, last := range n.Last {
		if !last {
			b.many, p.many = nil, nil
		}
	}
	return b, and(p, exact(2))
}
