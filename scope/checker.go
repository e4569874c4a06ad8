package scope

import (
	"slices"

	"guipure/api"
	"guipure/parse"
	"guipure/spec"
)

// checker looks over a specification's names, one by one.
type checker struct {
	spec  api.Spec
	names map[string]int // those ahead, and their types
}

// def: a name, and its type.
func (c *checker) def(d api.Def) api.Fault {
	if !right(d.Name) {
		return api.Fault{Code: api.ErrForm, At: d.Type}
	}
	if _, ok := c.names[d.Name]; ok {
		return api.Fault{Code: api.ErrTwice, At: d.Type}
	}
	f := c.kind(d.Type, nil)
	c.names[d.Name] = d.Type // not ahead of its type, for that can't use it
	return f
}

// kind: a type, if fields of these names are ahead of it.
func (c *checker) kind(at int, fields []string) api.Fault {
	n := c.spec.Nodes[at]
	if n.Kind == api.Record {
		return c.record(at, fields)
	}
	if _, ok := c.names[n.Text]; n.Kind == api.Use && !ok {
		return api.Fault{Code: api.ErrUse, At: at}
	}
	for _, part := range spec.Kids(n) {
		if f := c.kind(part, fields); f.Code != api.OK {
			return f
		}
	}
	return api.Fault{}
}

// record: likewise of a Record.
func (c *checker) record(at int, fields []string) api.Fault {
	fields = fields[:len(fields):len(fields)] // its own names aren't put where those behind it in a Record around it are
	for _, field := range c.spec.Nodes[at].Fields {
		if !right(field.Name) {
			return api.Fault{Code: api.ErrForm, At: at}
		}
		if slices.Contains(fields, field.Name) {
			return api.Fault{Code: api.ErrTwice, At: at}
		}
		if f := c.kind(field.Type, fields); f.Code != api.OK {
			return f
		}
		fields = append(fields, field.Name)
	}
	return api.Fault{}
}

// right: can it be a name? What one looks like layer 12 alone tells, of a text.
func right(name string) bool {
	s, f := parse.Parse(name + " = empty;")
	return f.Code == api.OK && s.Defs[0].Name == name
}
