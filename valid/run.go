package valid

import (
	"slices"

	"guipure/api"
	"guipure/leb"
	"guipure/scope"
	"guipure/tree"
	"guipure/wide"
)

// run fills one tree in, from the front on, up to the first part that isn't one of its type.
type run struct {
	*Maker
	whole   api.Tree
	way     []int   // to the part that is looked at
	numbers []known // of the fields ahead of it, by which it may go
	fault   api.Fault
}

// known is a field's number, by its name.
type known struct {
	name  string
	value uint64
}

// filled is a part that is one of its type, filled in, and how many bytes it stands for.
type filled struct {
	tree api.Tree
	size int
}

// room: a part without parts, that has room for as many as a tree has.
func room(t api.Tree) filled {
	return filled{tree: api.Tree{Kids: slices.Grow([]api.Tree(nil), len(t.Kids))}}
}

// add: one part more.
func (f *filled) add(part filled) {
	f.tree.Kids = append(f.tree.Kids, part.tree)
	f.size += part.size
}

// to: a part of the part that is looked at is looked at.
func (r *run) to(i int) { r.way = append(r.way, i) }

// back: and no longer.
func (r *run) back() { r.way = r.way[:len(r.way)-1] }

// fail: the part that is looked at isn't one of its type.
func (r *run) fail(code api.Errno) (filled, bool) {
	r.fault = api.Fault{Code: code, At: place(r.whole, r.way)}
	return filled{}, false
}

// place: which part of a tree, from the front on, is at the end of a way.
func place(t api.Tree, way []int) int {
	at := 0
	for _, i := range way {
		at++ // each is ahead of its own
		for _, ahead := range t.Kids[:i] {
			at += tree.Parts(ahead)
		}
		t = t.Kids[i]
	}
	return at
}

// kind: the part that is looked at, of a type; of a Use of its name's, that goes by nothing ahead of it, as layer 15 has it.
func (r *run) kind(at int, t api.Tree) (filled, bool) {
	at = scope.Target(r.spec, at)
	n := r.spec.Nodes[at]
	if e := shape(n, t); e != api.OK {
		return r.fail(e)
	}
	switch n.Kind {
	case api.Fixed, api.Varint:
		return r.number(n, t.Num)
	case api.Token:
		return r.token(at, t)
	case api.Blob, api.Times, api.Within:
		return r.counted(n, t)
	case api.Record:
		return r.record(n, t)
	case api.Many:
		return r.parts(n.Kids[0], t)
	case api.Switch:
		return r.choose(n, t)
	case api.Choice:
		return r.choice(n, t)
	case api.Chain:
		return r.chain(n, t)
	}
	return filled{}, true
}

// part: a part of the part that is looked at, of a type.
func (r *run) part(kind int, t api.Tree, i int) (filled, bool) {
	r.to(i)
	out, ok := r.kind(kind, t.Kids[i])
	r.back()
	return out, ok
}

// parts: all its parts, of one type.
func (r *run) parts(kind int, t api.Tree) (filled, bool) {
	out := room(t)
	for i := range t.Kids {
		part, ok := r.part(kind, t, i)
		if !ok {
			return filled{}, false
		}
		out.add(part)
	}
	return out, true
}

// number: a number, as a tree has it, or as it is filled in.
func (r *run) number(n api.Node, x uint64) (filled, bool) {
	if !wide.Within(x, n.Min, n.Max) {
		return r.fail(api.ErrValue)
	}
	size := n.Width
	if n.Kind == api.Varint {
		size = leb.Len(x)
	}
	return filled{tree: tree.Num(x), size: size}, true
}

// token: bytes by an expression.
func (r *run) token(at int, t api.Tree) (filled, bool) {
	if !r.autos[at].Match(t.Data) {
		return r.fail(api.ErrToken)
	}
	return data(t), true
}

// data: bytes, as they are.
func data(t api.Tree) filled {
	return filled{tree: tree.Data(t.Data...), size: len(t.Data)}
}

// value: the number of a name; what has none goes by 0. Of two the inner one is meant, for the other one is ahead of a Use.
func (r *run) value(name string) uint64 {
	for _, ahead := range slices.Backward(r.numbers) {
		if ahead.name == name {
			return ahead.value
		}
	}
	return 0
}

// counted: so many bytes, or so many of a type, or one in so many bytes.
func (r *run) counted(n api.Node, t api.Tree) (filled, bool) {
	many, e := wide.Eval(n.Expr, r.value(n.Expr.Reg))
	if e != api.OK {
		return r.fail(e)
	}
	length := len(t.Data) + len(t.Kids) // a Blob has no parts, a Times no bytes
	if n.Kind != api.Within && many != uint64(length) {
		return r.fail(api.ErrLimit)
	}
	out, ok := r.inside(n, t)
	if ok && n.Kind == api.Within && many != uint64(out.size) { // it is known behind its part alone
		return r.fail(api.ErrLimit)
	}
	return out, ok
}

// inside: likewise, however many.
func (r *run) inside(n api.Node, t api.Tree) (filled, bool) {
	if n.Kind == api.Blob {
		return data(t), true
	}
	return r.parts(n.Kids[0], t)
}

// choose: one of some types, by a number.
func (r *run) choose(n api.Node, t api.Tree) (filled, bool) {
	kind := Case(n, r.value(n.Reg))
	if kind == none {
		return r.fail(api.ErrCase)
	}
	return r.parts(kind, t)
}

// choice: one of some types, which the tree tells.
func (r *run) choice(n api.Node, t api.Tree) (filled, bool) {
	out, ok := r.parts(n.Kids[t.Num], t)
	out.tree.Num = t.Num
	return out, ok
}

// chain: some of some types, up to one that is the last.
func (r *run) chain(n api.Node, t api.Tree) (filled, bool) {
	out := room(t)
	for i := range t.Kids {
		r.to(i)
		part, ok := r.link(n, t.Kids[i], i == len(t.Kids)-1)
		r.back()
		if !ok {
			return filled{}, false
		}
		out.add(part)
	}
	return out, true
}

// link: one of these: the last one, or another one. Which of both it is belongs to its shape.
func (r *run) link(n api.Node, t api.Tree, last bool) (filled, bool) {
	n.Kind = api.Choice
	e := shape(n, t)
	if e != api.ErrShape && n.Last[t.Num] != last {
		e = api.ErrShape
	}
	if e != api.OK {
		return r.fail(e)
	}
	return r.choice(n, t)
}
