package valid_test

import (
	"slices"

	"guipure/api"
	"guipure/dfa"
	"guipure/leb"
	"guipure/octet"
	"guipure/regex"
	"guipure/sample"
	"guipure/scope"
	"guipure/spec"
)

// told is an error, and when it is told: the first one is that whose place is the least.
type told struct {
	place []int
	way   []int
	code  api.Errno
}

// order: errors of one part are told in this order.
func order() []api.Errno {
	return []api.Errno{api.ErrShape, api.ErrBlank, api.ErrValue, api.ErrToken, api.ErrLimit, api.ErrOver, api.ErrCase}
}

// node is a part of a tree, and what it must be one of. Its parts are found when they are asked for.
type node struct {
	kind  api.Node
	tree  api.Tree
	up    *node
	i     int  // which part of that it is
	alone bool // a Use is between: it goes by nothing ahead of that
	link  bool // it is a Chain's
	found []*node
}

// oracle collects all that is wrong with a tree, whatever is told first.
type oracle struct {
	s     api.Spec
	words map[string]*dfa.Auto // of the texts of Tokens
	list  []told
}

// judge: one of an accepted specification, which may be asked of several trees.
func judge(s api.Spec) *oracle {
	o := &oracle{s: s, words: map[string]*dfa.Auto{}}
	for _, n := range s.Nodes {
		if n.Kind == api.Token {
			x, _ := regex.Parse(n.Text)
			o.words[n.Text], _ = dfa.Of(x)
		}
	}
	return o
}

// part: one of a node's parts, of a type.
func (o *oracle) part(up *node, i, kind int) *node {
	at := scope.Target(o.s, kind)
	return &node{kind: o.s.Nodes[at], tree: up.tree.Kids[i], up: up, i: i, alone: at != kind}
}

// parts: all of them; none, if it isn't known of which types they must be.
func (o *oracle) parts(x *node) []*node {
	if x.found != nil {
		return x.found
	}
	for i := range x.tree.Kids {
		switch n := x.kind; {
		case n.Kind == api.Record && len(x.tree.Kids) == len(n.Fields):
			x.found = append(x.found, o.part(x, i, n.Fields[i].Type))
		case n.Kind == api.Times, n.Kind == api.Many, n.Kind == api.Within && len(x.tree.Kids) == 1:
			x.found = append(x.found, o.part(x, i, n.Kids[0]))
		case n.Kind == api.Switch && len(x.tree.Kids) == 1 && o.way(x) >= 0:
			x.found = append(x.found, o.part(x, i, o.way(x)))
		case n.Kind == api.Choice && len(x.tree.Kids) == 1 && x.tree.Num < uint64(len(n.Kids)):
			x.found = append(x.found, o.part(x, i, n.Kids[x.tree.Num]))
		case n.Kind == api.Chain:
			one := n
			one.Kind = api.Choice
			x.found = append(x.found, &node{kind: one, tree: x.tree.Kids[i], up: x, i: i, link: true})
		}
	}
	return x.found
}

// way: the type to which a Switch leads; -1: none.
func (o *oracle) way(x *node) int {
	by := o.ahead(x, x.kind.Reg)
	if x.kind.Mod != 0 {
		by %= x.kind.Mod
	}
	for _, c := range x.kind.Cases {
		if c.Value == by {
			return c.Type
		}
	}
	return x.kind.Else
}

// ahead: the number of a name ahead of a node, found by going up from it.
func (o *oracle) ahead(x *node, name string) uint64 {
	for ; x.up != nil && !x.alone; x = x.up {
		for i, f := range x.up.kind.Fields[:min(x.i, len(x.up.kind.Fields))] {
			if f.Name == name {
				return o.number(o.parts(x.up)[i])
			}
		}
	}
	return 0
}

// field: the field that a node is, and whether it is one.
func field(x *node) (api.Field, bool) {
	if x.up == nil || x.up.kind.Kind != api.Record {
		return api.Field{}, false
	}
	return x.up.kind.Fields[x.i], true
}

// blank: may a node be blank, and is it?
func blank(x *node) bool {
	f, _ := field(x)
	return x.tree.Blank && f.Derive != api.Plain
}

// of: what a derived field is of.
func (o *oracle) of(x *node) *node {
	f, _ := field(x)
	return o.parts(x.up)[slices.IndexFunc(x.up.kind.Fields, func(other api.Field) bool { return other.Name == f.Of })]
}

// number: a node's number, filled in.
func (o *oracle) number(x *node) uint64 {
	if !blank(x) {
		return x.tree.Num
	}
	switch f, _ := field(x); f.Derive {
	case api.CountOf:
		return uint64(len(o.of(x).tree.Kids))
	case api.SizeOf:
		return uint64(len(o.bytes(o.of(x))))
	}
	return 0
}

// bytes: those for which a node stands.
func (o *oracle) bytes(x *node) []byte {
	switch x.kind.Kind {
	case api.Fixed:
		b, _ := octet.Put(nil, o.number(x), x.kind.Width, x.kind.Little)
		return b
	case api.Varint:
		return leb.Put(nil, o.number(x))
	case api.Token, api.Blob:
		return x.tree.Data
	}
	var out []byte
	for _, part := range o.parts(x) {
		out = append(out, o.bytes(part)...)
	}
	return out
}

// filled: a node's tree, filled in.
func (o *oracle) filled(x *node) api.Tree {
	out := api.Tree{Num: o.number(x), Blank: x.tree.Blank, Data: x.tree.Data}
	if f, _ := field(x); blank(x) && f.Derive != api.SumOf {
		out.Blank = false
	}
	for _, part := range o.parts(x) {
		out.Kids = append(out.Kids, o.filled(part))
	}
	return out
}

// many: how many an expression of a node tells; false, if they are too many.
func (o *oracle) many(x *node) (uint64, bool) {
	e := x.kind.Expr
	if e.Reg == "" {
		return e.Add, true
	}
	by := o.ahead(x, e.Reg)
	y := e.Mul*by + e.Add
	return y, y >= e.Add && (y-e.Add)/e.Mul == by
}

// own: what is wrong with a node by itself.
func (o *oracle) own(x *node) []api.Errno {
	n, t := x.kind, x.tree
	var out []api.Errno
	tell := func(wrong bool, code api.Errno) {
		if wrong {
			out = append(out, code)
		}
	}
	number := spec.Number(n)
	one := n.Kind == api.Within || n.Kind == api.Switch || n.Kind == api.Choice
	tell(t.Num != 0 && !number && n.Kind != api.Choice || blank(x) && t.Num != 0, api.ErrShape)
	tell(len(t.Data) > 0 && n.Kind != api.Token && n.Kind != api.Blob, api.ErrShape)
	tell(len(t.Kids) > 0 && (number || n.Kind == api.Token || n.Kind == api.Blob || n.Kind == api.Empty), api.ErrShape)
	tell(one && len(t.Kids) != 1 || n.Kind == api.Record && len(t.Kids) != len(n.Fields) || n.Kind == api.Chain && len(t.Kids) == 0, api.ErrShape)
	tell(t.Blank && !blank(x), api.ErrBlank)
	tell(number && (o.number(x) < n.Min || o.number(x) > n.Max), api.ErrValue)
	if n.Kind == api.Choice {
		last := x.link && x.i == len(x.up.tree.Kids)-1
		tell(t.Num >= uint64(len(n.Kids)) || x.link && n.Last[t.Num] != last, api.ErrShape)
	}
	if n.Kind == api.Token {
		tell(!o.words[n.Text].Match(t.Data), api.ErrToken)
	}
	many, ok := o.many(x)
	tell(!ok, api.ErrOver)
	tell(ok && n.Kind == api.Blob && many != uint64(len(t.Data)) || ok && n.Kind == api.Times && many != uint64(len(t.Kids)), api.ErrLimit)
	tell(n.Kind == api.Switch && o.way(x) < 0, api.ErrCase)
	return out
}

// look: all that is wrong with a node, that is looked at then, and with its parts.
func (o *oracle) look(x *node, place, way []int) {
	for _, code := range o.own(x) {
		o.tell(code, place, way)
	}
	before := len(o.list)
	parts := o.parts(x)
	for i, part := range parts {
		when := []int{i, 1}
		for j, other := range parts {
			if f, ok := field(other); ok && f.Derive == api.SizeOf && other.tree.Blank && o.of(other) == part {
				when = []int{j, 0}
			}
		}
		o.look(part, append(slices.Clone(place), when...), append(slices.Clone(way), i))
	}
	many, ok := o.many(x)
	if x.kind.Kind == api.Within && len(o.list) == before && ok && many != uint64(len(o.bytes(x))) {
		o.tell(api.ErrLimit, place, way)
	}
}

// tell: one more that is wrong.
func (o *oracle) tell(code api.Errno, place, way []int) {
	when := append(slices.Clone(place), -1, slices.Index(order(), code)) // a part is ahead of its own
	o.list = append(o.list, told{when, slices.Clone(way), code})
}

// fill: what layer 18 tells of a tree.
func (o *oracle) fill(t api.Tree) (api.Tree, int, api.Fault) {
	all := sample.Ways(t)
	if slices.ContainsFunc(all, func(way []int) bool { return len(way) > 200 }) {
		return api.Tree{}, 0, api.Fault{Code: api.ErrShape}
	}
	root := &node{kind: o.s.Nodes[scope.Target(o.s, spec.Root(o.s))], tree: t}
	o.list = nil
	o.look(root, nil, nil)
	if len(o.list) == 0 {
		return o.filled(root), len(o.bytes(root)), api.Fault{}
	}
	first := slices.MinFunc(o.list, func(a, b told) int { return slices.Compare(a.place, b.place) })
	at := slices.IndexFunc(all, func(way []int) bool { return slices.Equal(way, first.way) })
	return api.Tree{}, 0, api.Fault{Code: first.code, At: at}
}
