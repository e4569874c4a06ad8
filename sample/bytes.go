package sample

import (
	"slices"

	"guipure/api"
	"guipure/crc"
	"guipure/leb"
	"guipure/octet"
	"guipure/scope"
	"guipure/spec"
)

// writer writes a tree as bytes.
type writer struct {
	spec    api.Spec
	table   crc.Table
	out     []byte
	numbers map[string]uint64 // of the fields so far
}

// Written: the bytes of a tree that is one of an accepted specification, filled in, and it with its checksums; these are the right ones, whatever they were.
func Written(s api.Spec, t api.Tree) ([]byte, api.Tree) {
	w := writer{spec: s, numbers: map[string]uint64{}}
	t = w.kind(spec.Root(s), t)
	return w.out, t
}

// kind: a tree of a type.
func (w *writer) kind(at int, t api.Tree) api.Tree {
	n := w.spec.Nodes[at]
	switch n.Kind {
	case api.Use:
		around := w.numbers
		w.numbers = map[string]uint64{}
		t = w.kind(scope.Target(w.spec, at), t)
		w.numbers = around
		return t
	case api.Fixed:
		b, _ := octet.Put(nil, t.Num, n.Width, n.Little)
		w.out = append(w.out, b...)
	case api.Varint:
		w.out = append(w.out, leb.Put(nil, t.Num)...)
	case api.Token, api.Blob:
		w.out = append(w.out, t.Data...)
	case api.Record:
		return w.record(n, t)
	}
	out := api.Tree{Num: t.Num, Data: t.Data}
	for _, kid := range t.Kids {
		out.Kids = append(out.Kids, w.part(n, t, kid))
	}
	return out
}

// part: a part of a tree of a type.
func (w *writer) part(n api.Node, t, kid api.Tree) api.Tree {
	switch n.Kind {
	case api.Switch:
		return w.kind(way(n, w.numbers[n.Reg]), kid)
	case api.Choice:
		return w.kind(n.Kids[t.Num], kid)
	case api.Chain:
		return api.Tree{Num: kid.Num, Kids: []api.Tree{w.kind(n.Kids[kid.Num], kid.Kids[0])}}
	}
	return w.kind(n.Kids[0], kid)
}

// record: field by field.
func (w *writer) record(n api.Node, t api.Tree) api.Tree {
	var out api.Tree
	begins := make([]int, len(n.Fields)+1)
	for i, f := range n.Fields {
		begins[i] = len(w.out)
		kid := t.Kids[i]
		if f.Derive == api.SumOf {
			from, to := begins[named(n, f.Of)], begins[named(n, f.To)+1]
			kid = api.Tree{Num: uint64(w.table.Of(w.out[from:to]...))}
		}
		out.Kids = append(out.Kids, w.kind(f.Type, kid))
		w.numbers[f.Name] = kid.Num
		begins[i+1] = len(w.out)
	}
	return out
}

// named: which field of a Record has a name.
func named(n api.Node, name string) int {
	return slices.IndexFunc(n.Fields, func(f api.Field) bool { return f.Name == name })
}
