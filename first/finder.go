package first

import (
	"slices"

	"guipure/api"
	"guipure/auto"
	"guipure/class"
	"guipure/dfa"
	"guipure/reg"
	"guipure/regex"
	"guipure/spec"
)

// finder finds out what is known of types, each behind its parts.
type finder struct {
	spec  api.Spec
	infos []Info
	autos map[int]*dfa.Auto
}

// look: what is known of a specification's types; nothing, if it isn't accepted.
func look(s api.Spec) (finder, api.Fault) {
	if f := reg.Check(s); f.Code != api.OK {
		return finder{}, f
	}
	found := finder{spec: s, infos: make([]Info, len(s.Nodes)), autos: map[int]*dfa.Auto{}}
	for _, d := range s.Defs {
		if f := found.kind(d.Type); f.Code != api.OK {
			return finder{}, f
		}
	}
	return found, api.Fault{}
}

// kind: a type, and all of which it is made.
func (f *finder) kind(at int) api.Fault {
	n := f.spec.Nodes[at]
	if e := cases(n); e != api.OK {
		return api.Fault{Code: e, At: at}
	}
	for i, part := range spec.Kids(n) {
		if fault := f.kind(part); fault.Code != api.OK {
			return fault
		}
		if e := f.part(n, i); e != api.OK {
			return api.Fault{Code: e, At: at}
		}
	}
	if e := f.whole(at); e != api.OK {
		return api.Fault{Code: e, At: at}
	}
	f.infos[at] = f.known(at)
	return api.Fault{}
}

// cases: may a Switch's cases be? Others have none.
func cases(n api.Node) api.Errno {
	for i, c := range n.Cases {
		if n.Mod != 0 && c.Value >= n.Mod {
			return api.ErrRange
		}
		if slices.ContainsFunc(n.Cases[:i], func(ahead api.Case) bool { return ahead.Value == c.Value }) {
			return api.ErrTwice
		}
	}
	return api.OK
}

// part: may one of its parts be what it is, in such a type? It is known, and all ahead of it are.
func (f *finder) part(n api.Node, i int) api.Errno {
	switch n.Kind {
	case api.Record:
		if i < len(n.Fields)-1 && f.infos[n.Fields[i].Type].Open {
			return api.ErrPrefix
		}
	case api.Times, api.Many:
		return repeated(f.infos[n.Kids[i]])
	case api.Choice, api.Chain:
		return f.chosen(n, i)
	}
	return api.OK
}

// repeated: likewise of what may come often.
func repeated(kid Info) api.Errno {
	switch {
	case kid.Null:
		return api.ErrEmpty
	case kid.Open:
		return api.ErrPrefix
	}
	return api.OK
}

// chosen: likewise of what is told by its first byte.
func (f *finder) chosen(n api.Node, i int) api.Errno {
	kid := f.infos[n.Kids[i]]
	switch {
	case kid.Null:
		return api.ErrEmpty
	case !kid.First.And(f.begin(n.Kids[:i])).Empty():
		return api.ErrClash
	case n.Kind == api.Chain && kid.Open && !n.Last[i]:
		return api.ErrPrefix
	}
	return api.OK
}

// begin: the bytes with which one of some types may begin.
func (f *finder) begin(kinds []int) class.Set {
	var out class.Set
	for _, kind := range kinds {
		out = out.Or(f.infos[kind].First)
	}
	return out
}

// whole: may a type be, whose parts may?
func (f *finder) whole(at int) api.Errno {
	n := f.spec.Nodes[at]
	switch {
	case n.Kind == api.Token:
		return f.token(at)
	case n.Kind == api.Chain && !slices.Contains(n.Last, true):
		return api.ErrForm
	}
	return api.OK
}

// token: may a Token be? Then it has its automaton.
func (f *finder) token(at int) api.Errno {
	n, fault := regex.Parse(f.spec.Nodes[at].Text)
	if fault.Code != api.OK {
		return fault.Code
	}
	a, e := dfa.Of(n)
	switch {
	case e != api.OK:
		return e
	case auto.Null(a) || auto.Empty(a):
		return api.ErrEmpty
	case !auto.Prefix(a):
		return api.ErrPrefix
	}
	f.autos[at] = a
	return api.OK
}
