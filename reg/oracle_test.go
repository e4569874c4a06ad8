package reg_test

import (
	"slices"

	"guipure/api"
	"guipure/reg"
	"guipure/scope"
	"guipure/spec"
)

// told is an error, and when it is told: the first one is that whose place is the least.
type told struct {
	place []int
	fault api.Fault
}

// around: of a type the one whose part it is, and which one; false: it has a name.
func around(s api.Spec, at int) (int, int, bool) {
	for out, n := range s.Nodes {
		if i := slices.Index(spec.Kids(n), at); i >= 0 {
			return out, i, true
		}
	}
	return 0, 0, false
}

// within: is a type another one, or within it?
func within(s api.Spec, at, whole int) bool {
	for ok := true; ok; at, _, ok = around(s, at) {
		if at == whole {
			return true
		}
	}
	return false
}

// place: when a type is looked at.
func place(s api.Spec, at int) []int {
	out, i, ok := around(s, at)
	if ok {
		return append(place(s, out), i)
	}
	return []int{slices.IndexFunc(s.Defs, func(d api.Def) bool { return d.Type == at })}
}

// which: the field of a Record that has a name.
func which(n api.Node, name string) int {
	return slices.IndexFunc(n.Fields, func(f api.Field) bool { return f.Name == name })
}

// name: the name of the number by which a type goes.
func name(n api.Node) string { return n.Reg + n.Expr.Reg }

// goes: to which field a type goes, found by going up from it.
func goes(s api.Spec, at int) (reg.Link, bool) {
	up, i, ok := around(s, at)
	for ; ok; up, i, ok = around(s, up) {
		n := s.Nodes[up]
		if n.Kind != api.Record {
			continue
		}
		if k := which(n, name(s.Nodes[at])); 0 <= k && k < i {
			f := n.Fields[k]
			kind := s.Nodes[f.Type].Kind
			return reg.Link{Type: at, Record: up, Field: k}, f.Derive != api.SumOf && (kind == api.Fixed || kind == api.Varint)
		}
	}
	return reg.Link{}, false
}

// sizes: is a field the size of a Within?
func sizes(s api.Spec, record, i int) bool {
	n := s.Nodes[record]
	of := which(n, n.Fields[i].Of)
	return n.Fields[i].Derive == api.SizeOf && of >= 0 && s.Nodes[n.Fields[of].Type].Kind == api.Within
}

// apart: does nothing within a Within go by the size of a Within that is outside of it?
func apart(s api.Spec, whole int) bool {
	for at, n := range s.Nodes {
		if at == whole || !within(s, at, whole) || name(n) == "" {
			continue
		}
		if l, ok := goes(s, at); ok && !within(s, l.Record, whole) && sizes(s, l.Record, l.Field) {
			return false
		}
	}
	return true
}

// derives: can a field be derived as it says?
func derives(s api.Spec, record, i int) bool {
	n := s.Nodes[record]
	f := n.Fields[i]
	of, to := which(n, f.Of), which(n, f.To)
	number := s.Nodes[f.Type]
	if f.Derive == api.Plain {
		return f.Of+f.To == ""
	}
	if f.Derive == api.SumOf {
		return number.Kind == api.Fixed && number.Width == 4 && number.Min == 0 && number.Max == 0xffffffff && 0 <= of && of <= to && to < i
	}
	if f.Derive < 0 || f.Derive > api.SumOf || f.To != "" || of <= i || number.Zig || number.Kind != api.Fixed && number.Kind != api.Varint {
		return false
	}
	at := n.Fields[of].Type
	x, kind := s.Nodes[at].Expr, s.Nodes[at].Kind
	if x.Reg != f.Name || x.Mul != 1 || x.Add != 0 {
		return false
	}
	if f.Derive == api.CountOf {
		return kind == api.Times
	}
	return kind == api.Blob || kind == api.Within && apart(s, at)
}

// check: what layer 15 tells of a specification, all errors of which are collected, whatever is told first.
func check(s api.Spec) api.Fault {
	if f := scope.Check(s); f.Code != api.OK {
		return f
	}
	var list []told
	for at, n := range s.Nodes {
		here := place(s, at)
		if _, ok := goes(s, at); name(n) != "" && !ok {
			list = append(list, told{here, api.Fault{Code: api.ErrReg, At: at}})
		}
		for i := range n.Fields {
			if !derives(s, at, i) {
				list = append(list, told{append(slices.Clone(here), len(n.Fields)), api.Fault{Code: api.ErrDerive, At: at}})
			}
		}
	}
	slices.SortFunc(list, func(a, b told) int { return slices.Compare(a.place, b.place) })
	return append(list, told{})[0].fault
}
