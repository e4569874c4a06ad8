package spec

import "guipure/api"

// Builder puts a specification together, part by part.
type Builder struct{ made api.Spec }

// Add: a type more; its number.
func (b *Builder) Add(n api.Node) (int, api.Errno) {
	at := len(b.made.Nodes)
	if at == MaxNodes {
		return 0, api.ErrLong
	}
	b.made.Nodes = append(b.made.Nodes, Own(n))
	return at, api.OK
}

// Name: a type has a name.
func (b *Builder) Name(name string, kind int) api.Errno {
	if len(b.made.Defs) == MaxDefs {
		return api.ErrLong
	}
	b.made.Defs = append(b.made.Defs, api.Def{Name: name, Type: kind})
	return api.OK
}

// Spec: what was put together, if it may be.
func (b *Builder) Spec() (api.Spec, api.Errno) {
	if e := Check(b.made); e != api.OK {
		return api.Spec{}, e
	}
	return Clone(b.made), api.OK
}
