package scan_test

import (
	"hash/crc32"
	"math/big"
	"slices"

	"guipure/api"
	"guipure/dfa"
	"guipure/first"
	"guipure/spec"
)

// known is a number that was read in a field ahead.
type known struct {
	name  string
	value uint64
}

// place is where a type stands: how deep, behind which numbers, and up to which limit (nil: none).
type place struct {
	deep  int
	ahead []known
	limit *big.Int
}

// in: where a part of a type stands.
func (p place) in() place {
	p.deep++
	return p
}

// oracle reads bytes by an accepted specification itself, type by type, and has no program.
type oracle struct {
	s     api.Spec
	infos []first.Info
	autos map[int]*dfa.Auto
	b     []byte
	caps  api.Caps
	at    int
	began int
	steps int // how many a program takes for it
}

// judge: one of a specification, which may be asked of several bytes.
func judge(s api.Spec) *oracle {
	o := &oracle{s: s}
	o.infos, _ = first.Infos(s)
	o.autos, _ = first.Autos(s)
	return o
}

// scan: what layer 21 tells of bytes.
func (o *oracle) scan(b []byte, caps api.Caps) (t api.Tree, steps int, f api.Fault) {
	o.b, o.caps, o.at, o.began, o.steps = b, caps, 0, 0, 0
	defer func() {
		if wrong, ok := recover().(api.Fault); ok {
			t, steps, f = api.Tree{}, o.steps, wrong
		}
	}()
	t = o.kind(spec.Root(o.s), place{deep: 1})
	o.steps++
	o.must(o.at == len(b), api.ErrRest, o.at)
	return t, o.steps, f
}

// must: what must be so; else an error is told at a byte.
func (o *oracle) must(so bool, code api.Errno, at int) {
	if !so {
		panic(api.Fault{Code: code, At: at})
	}
}

// begin: a part begins.
func (o *oracle) begin(p place) {
	o.must(p.deep <= o.caps.Depth, api.ErrDepth, o.at)
	o.must(o.began < o.caps.Tokens, api.ErrTokens, o.at)
	o.began++
}

// room: so many bytes more, of what began at a byte, must be ahead of the limit.
func (o *oracle) room(p place, many *big.Int, from int) {
	end := new(big.Int).Add(big.NewInt(int64(o.at)), many)
	o.must(p.limit == nil || end.Cmp(p.limit) <= 0, api.ErrLimit, from)
}

// peek: the next byte.
func (o *oracle) peek() byte {
	o.must(o.at < len(o.b), api.ErrEnd, len(o.b))
	o.must(o.at < o.caps.Input, api.ErrInput, o.at)
	return o.b[o.at]
}

// next: the next byte, which is read.
func (o *oracle) next() byte {
	c := o.peek()
	o.at++
	return c
}

// many: how many an expression tells.
func (o *oracle) many(x api.Expr, p place) *big.Int {
	out := new(big.Int).SetUint64(x.Add)
	for _, k := range p.ahead {
		if k.name == x.Reg {
			times := new(big.Int).SetUint64(x.Mul)
			out.Add(out, times.Mul(times, new(big.Int).SetUint64(k.value)))
		}
	}
	o.must(out.IsUint64(), api.ErrOver, o.at)
	return out
}

// number: one that was read, and began at a byte.
func (o *oracle) number(n api.Node, x uint64, from int) api.Tree {
	o.must(n.Min <= x && x <= n.Max, api.ErrValue, from)
	return api.Tree{Num: x}
}

// kind: a type.
func (o *oracle) kind(at int, p place) api.Tree {
	n := o.s.Nodes[at]
	o.steps++
	if n.Kind == api.Use {
		t := o.kind(spec.Def(o.s, n.Text), place{deep: p.deep, limit: p.limit})
		o.steps++
		return t
	}
	o.begin(p)
	switch n.Kind {
	case api.Fixed:
		return o.fixed(n, p)
	case api.Varint:
		return o.varint(n, p)
	case api.Token:
		return o.token(o.autos[at], p)
	case api.Blob:
		return o.blob(n, p)
	case api.Record:
		return o.record(n, p)
	case api.Times, api.Many:
		return o.list(n, p)
	case api.Within:
		return o.within(n, p)
	case api.Switch:
		return o.choose(n, p)
	case api.Choice:
		return o.among(n, p)
	case api.Chain:
		return o.chain(n, p)
	}
	o.steps++
	return api.Tree{}
}

// fixed: a number of so many bytes.
func (o *oracle) fixed(n api.Node, p place) api.Tree {
	from := o.at
	o.room(p, big.NewInt(int64(n.Width)), from)
	var b []byte
	for range n.Width {
		b = append(b, o.next())
	}
	if n.Little {
		slices.Reverse(b)
	}
	return o.number(n, new(big.Int).SetBytes(b).Uint64(), from)
}

// varint: a number of seven bits a byte.
func (o *oracle) varint(n api.Node, p place) api.Tree {
	from := o.at
	value, unit := new(big.Int), big.NewInt(1)
	for {
		o.room(p, big.NewInt(1), from)
		c := o.next()
		value.Add(value, new(big.Int).Mul(unit, big.NewInt(int64(c%128))))
		unit.Lsh(unit, 7)
		o.must(o.at-from < 10 || c < 2, api.ErrVar, from)
		if c < 128 {
			o.must(c > 0 || o.at-from == 1 || n.Lenient, api.ErrCanon, from)
			return o.number(n, value.Uint64(), from)
		}
	}
}

// token: bytes for which an automaton stands.
func (o *oracle) token(a *dfa.Auto, p place) api.Tree {
	from := o.at
	for !a.Match(o.b[from:o.at]) {
		o.room(p, big.NewInt(1), from)
		o.next()
		state := 0
		for _, c := range o.b[from:o.at] {
			state = a.Step(state, c)
		}
		o.must(state != dfa.Dead, api.ErrToken, o.at-1)
	}
	return api.Tree{Data: slices.Clone(o.b[from:o.at])}
}

// blob: so many bytes.
func (o *oracle) blob(n api.Node, p place) api.Tree {
	from, many := o.at, o.many(n.Expr, p)
	o.room(p, many, from)
	for left := new(big.Int).Set(many); left.Sign() > 0; left.Sub(left, big.NewInt(1)) {
		o.next()
	}
	return api.Tree{Data: slices.Clone(o.b[from:o.at])}
}

// record: field by field.
func (o *oracle) record(n api.Node, p place) api.Tree {
	var t api.Tree
	begins, ends := map[string]int{}, map[string]int{}
	for _, f := range n.Fields {
		for _, sum := range n.Fields {
			if sum.Derive == api.SumOf && sum.Of == f.Name {
				o.steps++
			}
		}
		from := o.at
		kid := o.kind(f.Type, p.in())
		begins[f.Name], ends[f.Name] = from, o.at
		for _, sum := range n.Fields {
			if sum.Derive == api.SumOf && sum.To == f.Name {
				o.steps++
			}
			if sum.Derive == api.SumOf && sum.Name == f.Name {
				o.steps++
				o.must(kid.Num == uint64(crc32.ChecksumIEEE(o.b[begins[f.Of]:ends[f.To]])), api.ErrSum, from)
			}
		}
		t.Kids = append(t.Kids, kid)
		p.ahead = append(slices.Clip(p.ahead), known{f.Name, kid.Num})
	}
	o.steps++
	return t
}

// list: so many of a type, or as many as there is room for.
func (o *oracle) list(n api.Node, p place) api.Tree {
	var t api.Tree
	left := o.many(n.Expr, p)
	more := func() bool {
		o.steps++
		switch {
		case n.Kind == api.Times:
			return left.Sign() > 0
		case p.limit != nil:
			return big.NewInt(int64(o.at)).Cmp(p.limit) < 0
		}
		return o.at < len(o.b)
	}
	for more() {
		t.Kids = append(t.Kids, o.kind(n.Kids[0], p.in()))
		left.Sub(left, big.NewInt(1))
		o.steps++
	}
	o.steps++
	return t
}

// within: a type in just so many bytes.
func (o *oracle) within(n api.Node, p place) api.Tree {
	many := o.many(n.Expr, p)
	o.room(p, many, o.at)
	inner := p.in()
	inner.limit = many.Add(many, big.NewInt(int64(o.at)))
	if most := big.NewInt(1<<62 - 1); inner.limit.Cmp(most) > 0 {
		inner.limit = most
	}
	t := api.Tree{Kids: []api.Tree{o.kind(n.Kids[0], inner)}}
	o.steps++
	o.must(big.NewInt(int64(o.at)).Cmp(inner.limit) == 0, api.ErrLimit, o.at)
	return t
}

// choose: one type of some, by a number.
func (o *oracle) choose(n api.Node, p place) api.Tree {
	var x uint64
	for _, k := range p.ahead {
		if k.name == n.Reg {
			x = k.value
		}
	}
	if n.Mod != 0 {
		x %= n.Mod
	}
	o.steps++
	i := slices.IndexFunc(n.Cases, func(c api.Case) bool { return c.Value == x })
	if i >= 0 {
		t := api.Tree{Kids: []api.Tree{o.kind(n.Cases[i].Type, p.in())}}
		o.steps += 2
		return t
	}
	o.must(n.Else >= 0, api.ErrCase, o.at)
	t := api.Tree{Kids: []api.Tree{o.kind(n.Else, p.in())}}
	o.steps++
	return t
}

// among: one type of some, by its first byte. It has begun.
func (o *oracle) among(n api.Node, p place) api.Tree {
	o.room(p, big.NewInt(1), o.at)
	c := o.peek()
	i := slices.IndexFunc(n.Kids, func(kid int) bool { return o.infos[kid].First.Has(c) })
	o.must(i >= 0, api.ErrChoice, o.at)
	t := api.Tree{Num: uint64(i), Kids: []api.Tree{o.kind(n.Kids[i], p.in())}}
	o.steps += 2
	return t
}

// chain: some types, up to one that is the last.
func (o *oracle) chain(n api.Node, p place) api.Tree {
	var t api.Tree
	for {
		o.steps++
		o.begin(p.in())
		kid := o.among(n, p.in())
		t.Kids = append(t.Kids, kid)
		if n.Last[kid.Num] {
			o.steps++
			return t
		}
	}
}
