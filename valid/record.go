package valid

import (
	"slices"

	"guipure/api"
	"guipure/tree"
)

// record: a Record, field by field.
func (r *run) record(n api.Node, t api.Tree) (filled, bool) {
	out := room(t)
	ahead := map[int]filled{} // fields that were looked at ahead, for their sizes were blank
	outer := r.numbers
	for i, f := range n.Fields {
		part, ok := ahead[i]
		if !ok {
			part, ok = r.field(n, t, i, ahead)
		}
		if !ok {
			return filled{}, false
		}
		out.add(part)
		r.numbers = append(r.numbers, known{f.Name, part.tree.Num})
	}
	r.numbers = outer
	return out, true
}

// field: one of them; if it is blank, and derived, it is filled in.
func (r *run) field(n api.Node, t api.Tree, i int, ahead map[int]filled) (filled, bool) {
	f := n.Fields[i]
	if f.Derive == api.Plain || !t.Kids[i].Blank {
		return r.part(f.Type, t, i)
	}
	of := named(n, f.Of)
	many := counts(f, t.Kids[of])
	if f.Derive == api.SizeOf {
		sized, ok := r.look(n, t, i, of)
		if !ok {
			return filled{}, false
		}
		ahead[of] = sized
		many = sized.size
	}
	r.to(i)
	out, ok := r.blank(f, t.Kids[i], many)
	r.back()
	return out, ok
}

// named: which field of a Record has a name.
func named(n api.Node, name string) int {
	return slices.IndexFunc(n.Fields, func(f api.Field) bool { return f.Name == name })
}

// blank: a blank field, if it is the size or the count of so many; a checksum stays blank.
func (r *run) blank(f api.Field, t api.Tree, many int) (filled, bool) {
	n := r.spec.Nodes[f.Type]
	switch {
	case !void(t):
		return r.fail(api.ErrShape)
	case f.Derive == api.SumOf:
		return filled{tree: tree.Blank(), size: n.Width}, true
	}
	return r.number(n, uint64(many))
}

// look: the field of whose size another one is, at whose turn it is looked at; the numbers of those between aren't looked at yet, and are taken as they stand.
func (r *run) look(n api.Node, t api.Tree, i, of int) (filled, bool) {
	outer := r.numbers
	for between := i + 1; between < of; between++ {
		r.numbers = append(r.numbers, known{n.Fields[between].Name, standing(n, t, between)})
	}
	r.to(of)
	out, ok := r.sized(r.spec.Nodes[n.Fields[of].Type], t.Kids[of])
	r.back()
	r.numbers = outer
	return out, ok
}

// sized: a Blob, or a Within, of whatever size.
func (r *run) sized(n api.Node, t api.Tree) (filled, bool) {
	if e := shape(n, t); e != api.OK {
		return r.fail(e)
	}
	return r.inside(n, t)
}

// standing: a field's number as it stands, or as it will be filled in. (Nothing that is looked at ahead goes by the size of a Within, as layer 15 has it.)
func standing(n api.Node, t api.Tree, i int) uint64 {
	f := n.Fields[i]
	if !t.Kids[i].Blank || f.Derive == api.Plain {
		return t.Kids[i].Num
	}
	return uint64(counts(f, t.Kids[named(n, f.Of)]))
}

// counts: how many parts, or bytes, a tree has, of which a field is the count, or the size.
func counts(f api.Field, t api.Tree) int {
	if f.Derive == api.CountOf {
		return len(t.Kids)
	}
	return len(t.Data)
}
