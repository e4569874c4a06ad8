package first

import (
	"guipure/api"
	"guipure/auto"
	"guipure/class"
	"guipure/scope"
	"guipure/spec"
)

// known: what is known of a type, of whose parts it is known.
func (f *finder) known(at int) Info {
	n := f.spec.Nodes[at]
	switch n.Kind {
	case api.Fixed:
		return Info{First: Fixed(n)}
	case api.Varint:
		return Info{First: Varint(n)}
	case api.Token:
		return Info{First: auto.First(f.autos[at])}
	case api.Blob, api.Times, api.Within:
		return f.counted(n)
	case api.Many:
		return Info{First: f.begin(n.Kids), Null: true, Open: true}
	case api.Record:
		return f.record(n)
	case api.Switch, api.Choice, api.Chain:
		return f.either(n)
	case api.Use:
		return f.infos[scope.Target(f.spec, at)]
	}
	return Info{Null: true}
}

// counted: likewise of one that has so many bytes, or parts.
func (f *finder) counted(n api.Node) Info {
	out := Info{First: f.begin(n.Kids), Null: n.Expr.Add == 0}
	if n.Kind == api.Blob {
		out.First = class.All()
	}
	if n.Kind != api.Within && n.Expr == (api.Expr{}) {
		out.First = class.Set{} // there are none ever
	}
	return out
}

// record: likewise of a Record.
func (f *finder) record(n api.Node) Info {
	out := Info{Null: true}
	for _, field := range n.Fields {
		kind := f.infos[field.Type]
		if out.Null {
			out.First = out.First.Or(kind.First)
		}
		out.Null = out.Null && kind.Null
		out.Open = kind.Open // the last one's stays
	}
	return out
}

// either: likewise of one that is what one of its parts is, or some.
func (f *finder) either(n api.Node) Info {
	var out Info
	for _, part := range spec.Kids(n) {
		kind := f.infos[part]
		out.First = out.First.Or(kind.First)
		out.Null = out.Null || kind.Null
		out.Open = out.Open || kind.Open
	}
	return out
}
