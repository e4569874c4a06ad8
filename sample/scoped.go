package sample

import (
	"slices"
	"strconv"

	"guipure/api"
	"guipure/spec"
)

// Scoped: likewise one whose names are right.
func (m *Maker) Scoped(deep int) api.Spec {
	s := m.Spec(deep)
	for i := range s.Defs {
		s.Defs[i].Name = m.other(s.Defs[:i])
		m.mend(s, s.Defs[i].Type, s.Defs[:i], nil)
	}
	return s
}

// other: a name that none of these is.
func (m *Maker) other(list []api.Def) string {
	for {
		name := m.Name()
		if !slices.ContainsFunc(list, func(d api.Def) bool { return d.Name == name }) {
			return name
		}
	}
}

// mend: names are right in a type, ahead of which these names and fields are.
func (m *Maker) mend(s api.Spec, at int, ahead []api.Def, fields []string) {
	n := &s.Nodes[at]
	switch {
	case n.Kind == api.Use && len(ahead) == 0:
		*n = api.Node{Kind: api.Empty}
	case n.Kind == api.Use:
		n.Text = ahead[m.UpTo(len(ahead))].Name
	}
	for i, part := range spec.Kids(*n) {
		m.mend(s, part, ahead, fields)
		if n.Kind != api.Record {
			continue
		}
		name := m.Name()
		if slices.Contains(fields, name) {
			name = "f" + strconv.Itoa(len(fields))
		}
		n.Fields[i].Name = name
		fields = append(fields[:len(fields):len(fields)], name)
	}
}

// Shuffled: the same specification, its types in another order, each behind its parts.
func (m *Maker) Shuffled(s api.Spec) api.Spec {
	place := make([]int, len(s.Nodes)) // of each type its number then, and one more
	var out api.Spec
	for len(out.Nodes) < len(s.Nodes) {
		at := m.UpTo(len(s.Nodes))
		n := s.Nodes[at]
		if place[at] > 0 || slices.ContainsFunc(spec.Kids(n), func(k int) bool { return place[k] == 0 }) {
			continue
		}
		out.Nodes = append(out.Nodes, moved(n, func(k int) int { return place[k] - 1 }))
		place[at] = len(out.Nodes)
	}
	for _, d := range s.Defs {
		out.Defs = append(out.Defs, api.Def{Name: d.Name, Type: place[d.Type] - 1})
	}
	return out
}

// moved: a type whose parts have other numbers.
func moved(n api.Node, to func(int) int) api.Node {
	n = spec.Own(n)
	for i, k := range n.Kids {
		n.Kids[i] = to(k)
	}
	for i, f := range n.Fields {
		n.Fields[i].Type = to(f.Type)
	}
	for i, c := range n.Cases {
		n.Cases[i].Type = to(c.Type)
	}
	if n.Kind == api.Switch && n.Else >= 0 {
		n.Else = to(n.Else)
	}
	return n
}

// Part: a specification of a type of one that may be alone.
func Part(s api.Spec, at int) api.Spec {
	var out api.Spec
	var put func(int) int
	put = func(at int) int {
		n := moved(s.Nodes[at], put)
		out.Nodes = append(out.Nodes, n)
		return len(out.Nodes) - 1
	}
	out.Defs = []api.Def{{Name: "main", Type: put(at)}}
	return out
}
