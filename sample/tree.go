package sample

import (
	"math"
	"slices"

	"guipure/api"
	"guipure/auto"
	"guipure/dfa"
	"guipure/first"
	"guipure/leb"
	"guipure/scope"
	"guipure/spec"
	"guipure/wide"
)

const (
	patience = 10  // how often a part is made that hasn't the size that it must
	crowd    = 400 // how many parts are so many that there are no more
	heap     = 300 // how many bytes a part has at most
)

// Tree: any tree, up to so deep.
func (m *Maker) Tree(deep int) api.Tree {
	t := api.Tree{Num: m.Number(math.MaxUint64), Blank: m.UpTo(4) == 0}
	for range max(0, m.UpTo(5)-2) {
		t.Data = append(t.Data, byte(m.UpTo(256)))
	}
	if deep > 0 {
		for range m.UpTo(4) {
			t.Kids = append(t.Kids, m.Tree(deep-1))
		}
	}
	return t
}

// planter makes trees of a specification that is accepted.
type planter struct {
	*Maker
	spec    api.Spec
	autos   map[int]*dfa.Auto
	parts   int               // how many were made so far
	numbers map[string]uint64 // of the fields so far
}

// Planted: so many trees, which are mostly ones of an accepted specification, of whose sizes, counts and checksums some are blank. Where a size or a count can't be met a tree is none.
func (m *Maker) Planted(s api.Spec, many int) []api.Tree {
	autos, _ := first.Autos(s)
	var out []api.Tree
	for range many {
		p := planter{Maker: m, spec: s, autos: autos, numbers: map[string]uint64{}}
		t, _ := p.kind(spec.Root(s))
		out = append(out, t)
	}
	return out
}

// kind: a tree of a type, and how many bytes it stands for.
func (p *planter) kind(at int) (api.Tree, int) {
	p.parts++
	n := p.spec.Nodes[at]
	switch n.Kind {
	case api.Use:
		around := p.numbers
		p.numbers = map[string]uint64{}
		t, size := p.kind(scope.Target(p.spec, at))
		p.numbers = around
		return t, size
	case api.Fixed, api.Varint:
		return p.number(n)
	case api.Token:
		b := p.word(p.autos[at])
		return api.Tree{Data: b}, len(b)
	case api.Record:
		return p.record(n)
	case api.Switch:
		return p.all(way(n, p.numbers[n.Reg]), 1)
	case api.Choice:
		return p.choice(n, p.UpTo(len(n.Kids)))
	case api.Chain:
		return p.chain(n)
	}
	return p.many(n)
}

// many: likewise of a type that has so many of something.
func (p *planter) many(n api.Node) (api.Tree, int) {
	many, _ := wide.Eval(n.Expr, p.numbers[n.Expr.Reg])
	switch n.Kind {
	case api.Blob:
		b := p.bytes(int(min(many, heap)))
		return api.Tree{Data: b}, len(b)
	case api.Times:
		return p.all(n.Kids[0], int(min(many, heap)))
	case api.Many:
		return p.all(n.Kids[0], p.UpTo(4))
	case api.Within:
		return p.within(n.Kids[0], many)
	}
	return api.Tree{}, 0
}

// number: one of a range, mostly a small one.
func (p *planter) number(n api.Node) (api.Tree, int) {
	x := n.Min + uint64(p.UpTo(4))
	switch p.UpTo(20) {
	case 0:
		x = n.Max
	case 1:
		x = n.Min + p.Number(n.Max-n.Min)
	}
	x = min(max(x, n.Min), n.Max)
	return api.Tree{Num: x}, width(n, x)
}

// width: how many bytes a number has.
func width(n api.Node, x uint64) int {
	if n.Kind == api.Varint {
		return leb.Len(x)
	}
	return n.Width
}

// bytes: so many.
func (p *planter) bytes(many int) []byte {
	var out []byte
	for range many {
		out = append(out, byte(p.UpTo(256)))
	}
	return out
}

// word: bytes for which an automaton stands.
func (p *planter) word(a *dfa.Auto) []byte {
	var out []byte
	s := 0
	for range 20 {
		if a.Ends(s) {
			return out
		}
		c := byte(p.UpTo(256))
		for a.Step(s, c) == dfa.Dead {
			c++ // there is one by which it goes on, for it doesn't end here
		}
		out, s = append(out, c), a.Step(s, c)
	}
	out, _ = auto.Shortest(a) // it would take too long
	return out
}

// all: so many of a type, if they don't become too many.
func (p *planter) all(kind, many int) (api.Tree, int) {
	var t api.Tree
	size := 0
	for range many {
		if p.parts > crowd {
			break
		}
		kid, more := p.kind(kind)
		t.Kids, size = append(t.Kids, kid), size+more
	}
	return t, size
}

// within: one of a type that has so many bytes, if one is found soon.
func (p *planter) within(kind int, size uint64) (api.Tree, int) {
	for i := 1; ; i++ {
		t, got := p.all(kind, 1)
		if uint64(got) == size || i == patience {
			return t, got
		}
	}
}

// way: the type to which a Switch leads by a number; any one, if it leads to none.
func way(n api.Node, x uint64) int {
	if n.Mod != 0 {
		x %= n.Mod
	}
	for _, c := range n.Cases {
		if c.Value == x {
			return c.Type
		}
	}
	if n.Else >= 0 {
		return n.Else
	}
	return n.Cases[0].Type
}

// choice: one of some types, by its number.
func (p *planter) choice(n api.Node, which int) (api.Tree, int) {
	t, size := p.all(n.Kids[which], 1)
	t.Num = uint64(which)
	return t, size
}

// chain: some of some types, up to a last one.
func (p *planter) chain(n api.Node) (api.Tree, int) {
	var t api.Tree
	size := 0
	for {
		which := p.UpTo(len(n.Kids))
		kid, more := p.choice(n, which)
		t.Kids, size = append(t.Kids, kid), size+more
		if n.Last[which] || p.parts > crowd {
			return t, size
		}
		p.parts++
	}
}

// record: field by field.
func (p *planter) record(n api.Node) (api.Tree, int) {
	var t api.Tree
	sizes := make([]int, len(n.Fields))
	for i, f := range n.Fields {
		var kid api.Tree
		if by := p.measures(n, i); by >= 0 {
			kid, sizes[i] = p.all(p.spec.Nodes[f.Type].Kids[0], 1)
			t.Kids[by].Num = uint64(sizes[i])
			sizes[by] = width(p.spec.Nodes[n.Fields[by].Type], t.Kids[by].Num)
		} else {
			kid, sizes[i] = p.kind(f.Type)
		}
		t.Kids = append(t.Kids, kid)
		p.numbers[f.Name] = kid.Num
	}
	size := 0
	for i, f := range n.Fields {
		size += sizes[i]
		if f.Derive == api.SumOf && p.UpTo(2) == 0 || f.Derive != api.Plain && p.UpTo(3) == 0 {
			t.Kids[i] = api.Tree{Blank: true}
		}
	}
	return t, size
}

// measures: which field is the size of a Within that a field is: it is made of that, as if it were behind it; -1: none is.
func (p *planter) measures(n api.Node, i int) int {
	f := n.Fields[i]
	return slices.IndexFunc(n.Fields, func(by api.Field) bool {
		return by.Derive == api.SizeOf && by.Of == f.Name && p.spec.Nodes[f.Type].Kind == api.Within
	})
}
