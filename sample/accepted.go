package sample

import (
	"strconv"

	"guipure/api"
	"guipure/class"
	"guipure/spec"
)

// plenty is how many types are enough, so that they are never too many.
const plenty = 1000

// want tells what a type must be.
type want struct {
	bytes  class.Set // it begins with none but these
	solid  bool      // it can't be empty
	closed bool      // it doesn't go on to the limit
}

// allows: may a type of another want stand where this one is asked?
func (w want) allows(other want) bool {
	return other.bytes.And(w.bytes.Not()).Empty() && (other.solid || !w.solid) && (other.closed || !w.closed)
}

// number is a field by which types may go.
type number struct {
	name  string
	sizes bool // it is the size of a Within
}

// ahead is what is ahead of a type within its name's one.
type ahead struct {
	fields  int // how many
	numbers []number
}

// with: one more.
func (a ahead) with(n number, goes bool) ahead {
	a.fields++
	if goes {
		a.numbers = append(a.numbers[:len(a.numbers):len(a.numbers)], n)
	}
	return a
}

// within: what may be gone by within a Within whose size is derived.
func (a ahead) within() ahead {
	out := ahead{fields: a.fields}
	for _, n := range a.numbers {
		if !n.sizes {
			out.numbers = append(out.numbers, n)
		}
	}
	return out
}

// grower makes a specification that is accepted, each type as it is wanted.
type grower struct {
	*Maker
	spec  api.Spec
	wants []want // of each name so far
}

// Accepted: a specification that is accepted, of up to four names, whose types are up to so deep; each type stands behind its parts.
func (m *Maker) Accepted(deep int) api.Spec {
	g := grower{Maker: m}
	for i := range 1 + m.UpTo(4) {
		w := want{bytes: class.All(), solid: m.UpTo(2) == 0, closed: m.UpTo(2) == 0}
		if m.UpTo(2) == 0 {
			w.bytes = class.Range(byte(m.UpTo(128)), byte(128+m.UpTo(128)))
		}
		at := g.kind(w, ahead{}, deep)
		g.spec.Defs = append(g.spec.Defs, api.Def{Name: "n" + strconv.Itoa(i), Type: at})
		g.wants = append(g.wants, w)
	}
	return g.spec
}

// put: a type more, its parts are there: its number.
func (g *grower) put(n api.Node) int {
	g.spec.Nodes = append(g.spec.Nodes, n)
	return len(g.spec.Nodes) - 1
}

// kind: a type more, behind its parts: its number.
func (g *grower) kind(w want, a ahead, deep int) int {
	if deep > 0 && len(g.spec.Nodes) < plenty {
		switch g.UpTo(12) {
		case 0, 1, 2:
			return g.put(g.record(w, a, deep-1))
		case 3, 4:
			return g.put(g.times(w, a, deep-1))
		case 5:
			return g.put(g.within(w, a, deep-1))
		case 6, 7:
			return g.put(g.choose(w, a, deep-1))
		case 8, 9:
			return g.put(g.among(w, a, deep-1))
		}
	}
	return g.put(g.leaf(w, a))
}

// record: a Record, of whose fields one at least isn't empty, if it mayn't be.
func (g *grower) record(w want, a ahead, deep int) api.Node {
	n := api.Node{Kind: api.Record}
	many := 1 + g.UpTo(4)
	firm := g.UpTo(many)
	for i := range many {
		field := want{bytes: w.bytes, solid: w.solid && i == firm, closed: w.closed || i < many-1}
		if i > firm && w.solid {
			field.bytes = class.All()
		}
		a = g.field(&n, field, a, deep)
	}
	return n
}

// field: one more, or two, if one is derived of the other: what is ahead then.
func (g *grower) field(n *api.Node, w want, a ahead, deep int) ahead {
	f := api.Field{Name: "f" + strconv.Itoa(a.fields)}
	switch how := g.UpTo(8); {
	case how == 0 && !w.bytes.Empty():
		return g.measured(n, w, a, deep)
	case how == 1 && len(n.Fields) > 0 && w.bytes == class.All():
		f.Type = g.put(api.Node{Kind: api.Fixed, Width: 4, Little: g.UpTo(2) == 0, Max: 1<<32 - 1})
		from := g.UpTo(len(n.Fields))
		f.Derive, f.Of, f.To = api.SumOf, n.Fields[from].Name, n.Fields[from+g.UpTo(len(n.Fields)-from)].Name
	case how < 5 && !w.bytes.Empty():
		f.Type = g.put(g.number(w.bytes))
	default:
		f.Type = g.kind(w, a, deep)
	}
	n.Fields = append(n.Fields, f)
	return a.with(number{name: f.Name}, f.Derive == api.Plain && spec.Number(g.spec.Nodes[f.Type]))
}

// measured: a number, and what it is the size or the count of. If it mayn't be empty, the number isn't.
func (g *grower) measured(n *api.Node, w want, a ahead, deep int) ahead {
	f := api.Field{Name: "f" + strconv.Itoa(a.fields), Derive: api.SizeOf, Of: "f" + strconv.Itoa(a.fields+1)}
	f.Type = g.put(g.number(w.bytes))
	g.spec.Nodes[f.Type].Zig = false
	of := api.Node{Kind: api.Blob, Expr: api.Expr{Reg: f.Name, Mul: 1}}
	a = a.with(number{name: f.Name}, true)
	switch last := len(a.numbers) - 1; g.UpTo(3) {
	case 0:
		a.numbers[last].sizes = true
		of.Kind = api.Within
		of.Kids = []int{g.kind(want{bytes: class.All()}, a.within(), deep)}
	case 1:
		f.Derive = api.CountOf
		of.Kind = api.Times
		of.Kids = []int{g.kind(want{bytes: class.All(), solid: true, closed: true}, a, deep)}
	}
	n.Fields = append(n.Fields, f, api.Field{Name: f.Of, Type: g.put(of)})
	return a.with(number{}, false)
}

// times: a Times, or a Many, if that may be.
func (g *grower) times(w want, a ahead, deep int) api.Node {
	n := api.Node{Kind: api.Many, Kids: []int{g.kind(want{bytes: w.bytes, solid: true, closed: true}, a, deep)}}
	if w.solid || w.closed || g.UpTo(3) == 0 {
		n.Kind, n.Expr = api.Times, g.often(w, a)
	}
	return n
}

// within: a Within.
func (g *grower) within(w want, a ahead, deep int) api.Node {
	return api.Node{Kind: api.Within, Expr: g.often(w, a), Kids: []int{g.kind(want{bytes: w.bytes}, a, deep)}}
}

// often: how many; at least one, if it mayn't be empty.
func (g *grower) often(w want, a ahead) api.Expr {
	var x api.Expr
	if w.solid {
		x.Add = 1
	}
	x.Add += uint64(g.UpTo(3))
	if len(a.numbers) > 0 && g.UpTo(2) == 0 {
		x.Reg, x.Mul = a.numbers[g.UpTo(len(a.numbers))].name, uint64(1+g.UpTo(2))
	}
	return x
}

// choose: a Switch, if there is a number by which it can go; else a Record.
func (g *grower) choose(w want, a ahead, deep int) api.Node {
	if len(a.numbers) == 0 {
		return g.record(w, a, deep)
	}
	n := api.Node{Kind: api.Switch, Reg: a.numbers[g.UpTo(len(a.numbers))].name, Else: -1}
	many := 1 + g.UpTo(3)
	if g.UpTo(2) == 0 {
		n.Mod = uint64(many + g.UpTo(3))
	}
	for i := range many {
		n.Cases = append(n.Cases, api.Case{Value: uint64(many - 1 - i), Type: g.kind(w, a, deep)})
	}
	if g.UpTo(2) == 0 {
		n.Else = g.kind(w, a, deep)
	}
	return n
}

// among: a Choice or a Chain, each of whose types begins with bytes of its own.
func (g *grower) among(w want, a ahead, deep int) api.Node {
	n := api.Node{Kind: api.Choice + g.UpTo(2)}
	pieces := g.pieces(w.bytes)
	last := g.UpTo(len(pieces))
	for i, piece := range pieces {
		kid := want{bytes: piece, solid: true, closed: w.closed}
		if n.Kind == api.Chain {
			n.Last = append(n.Last, i == last || g.UpTo(3) == 0)
			kid.closed = w.closed || !n.Last[i]
		}
		n.Kids = append(n.Kids, g.kind(kid, a, deep))
	}
	return n
}

// pieces: some bytes, cut into up to four pieces, whose bytes stand beside each other, or by turns.
func (g *grower) pieces(s class.Set) []class.Set {
	many := 1 + g.UpTo(4)
	turns := g.UpTo(2) == 0
	out := make([]class.Set, max(1, min(many, s.Len())))
	for i, c := range s.Bytes() {
		which := i * len(out) / s.Len()
		if turns {
			which = i % len(out)
		}
		out[which] = out[which].Or(class.Of(c))
	}
	return out
}
