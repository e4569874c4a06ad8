package reg

import (
	"slices"

	"guipure/api"
	"guipure/scope"
	"guipure/spec"
)

// checker looks over a specification's numbers, name by name.
type checker struct {
	spec  api.Spec
	links map[int]Link // of each type that goes by a number, so far
}

// place is a field of a Record.
type place struct{ record, field int }

// links: of each type that goes by a number to which one; none, if a number isn't right.
func links(s api.Spec) (map[int]Link, api.Fault) {
	if f := scope.Check(s); f.Code != api.OK {
		return nil, f
	}
	c := checker{spec: s, links: map[int]Link{}}
	for _, d := range s.Defs {
		if f := c.kind(d.Type, nil); f.Code != api.OK {
			return nil, f
		}
	}
	return c.links, api.Fault{}
}

// kind: a type, if these fields are ahead of it.
func (c *checker) kind(at int, ahead []place) api.Fault {
	n := c.spec.Nodes[at]
	if name := by(n); name != "" && !c.link(at, name, ahead) {
		return api.Fault{Code: api.ErrReg, At: at}
	}
	if n.Kind == api.Record {
		return c.record(at, ahead)
	}
	for _, part := range spec.Kids(n) {
		if f := c.kind(part, ahead); f.Code != api.OK {
			return f
		}
	}
	return api.Fault{}
}

// record: likewise of a Record.
func (c *checker) record(at int, ahead []place) api.Fault {
	ahead = ahead[:len(ahead):len(ahead)] // its own fields aren't put where those behind it in a Record around it are
	n := c.spec.Nodes[at]
	for i, field := range n.Fields {
		if f := c.kind(field.Type, ahead); f.Code != api.OK {
			return f
		}
		ahead = append(ahead, place{at, i})
	}
	for i := range n.Fields {
		if !c.derivable(n, i) {
			return api.Fault{Code: api.ErrDerive, At: at}
		}
	}
	return api.Fault{}
}

// by: the name of the number by which a type goes; empty: it goes by none.
func by(n api.Node) string {
	if n.Kind == api.Switch {
		return n.Reg
	}
	return n.Expr.Reg
}

// link: is there a number of a name, by which a type can go? Then it does.
func (c *checker) link(at int, name string, ahead []place) bool {
	i := slices.IndexFunc(ahead, func(p place) bool { return c.field(p).Name == name })
	if i < 0 {
		return false
	}
	f := c.field(ahead[i])
	c.links[at] = Link{Type: at, Record: ahead[i].record, Field: ahead[i].field}
	return f.Derive != api.SumOf && spec.Number(c.spec.Nodes[f.Type])
}

// field: the one at a place.
func (c *checker) field(p place) api.Field { return c.spec.Nodes[p.record].Fields[p.field] }
