package emit

import (
	"slices"

	"guipure/api"
	"guipure/scope"
	"guipure/valid"
)

// walk goes through a tree that is filled in, from the front on, each part ahead of its own.
type walk struct {
	spec    api.Spec
	numbers []known                                              // of the fields ahead, by which types go
	part    func(n api.Node, t api.Tree)                         // a part is met
	fields  func(n api.Node, t *api.Tree, field func(which int)) // a Record is met: each of its fields, in order, is to be gone through by field
}

// known is a field's number, by its name.
type known struct {
	name  string
	value uint64
}

// kind: a part of a type.
func (w *walk) kind(at int, t *api.Tree) {
	n := w.spec.Nodes[at]
	if n.Kind == api.Use {
		w.alone(func() { w.kind(scope.Target(w.spec, at), t) })
		return
	}
	w.node(n, t)
}

// alone: what is done goes by none of the numbers ahead.
func (w *walk) alone(do func()) {
	outer := w.numbers
	w.numbers = nil
	do()
	w.numbers = outer
}

// node: a part of a type that is no Use.
func (w *walk) node(n api.Node, t *api.Tree) {
	w.part(n, *t)
	switch n.Kind {
	case api.Record:
		w.record(n, t)
	case api.Times, api.Many, api.Within:
		w.parts(n.Kids[0], t)
	case api.Switch:
		w.parts(valid.Case(n, w.value(n.Reg)), t)
	case api.Choice:
		w.parts(n.Kids[t.Num], t)
	case api.Chain:
		n.Kind = api.Choice // each of its parts is like one's
		for i := range t.Kids {
			w.node(n, &t.Kids[i])
		}
	}
}

// parts: all parts of a part, each of one type.
func (w *walk) parts(kind int, t *api.Tree) {
	for i := range t.Kids {
		w.kind(kind, &t.Kids[i])
	}
}

// record: the fields of a Record, by whose numbers those behind them may go.
func (w *walk) record(n api.Node, t *api.Tree) {
	outer := w.numbers
	w.fields(n, t, func(which int) {
		f := n.Fields[which]
		w.kind(f.Type, &t.Kids[which])
		w.numbers = append(w.numbers, known{f.Name, t.Kids[which].Num})
	})
	w.numbers = outer
}

// value: the number of a name.
func (w *walk) value(name string) uint64 {
	i := slices.IndexFunc(w.numbers, func(k known) bool { return k.name == name })
	return w.numbers[i].value
}
