package scope_test

import (
	"regexp"
	"slices"

	"guipure/api"
	"guipure/scope"
	"guipure/spec"
)

// told is an error, and when it is told: the first one is that whose place is the least.
type told struct {
	place []int
	fault api.Fault
}

// oracle collects all errors of a specification that layer 11 lets stand, whatever is told first.
type oracle struct {
	s    api.Spec
	list []told
}

var name = regexp.MustCompile(`^[A-Za-z_][A-Za-z_0-9]{0,23}$`)

var word = regexp.MustCompile(`^(u8|u(16|24|32|40|48|56|64)[bl]e|varint|zigzag|lenient|bytes|times|many|within|switch|else|oneof|chain|last|empty|size|count|crc)$`)

// can: can it be a name?
func can(text string) bool { return name.MatchString(text) && !word.MatchString(text) }

func (o *oracle) tell(wrong bool, code api.Errno, at int, place []int, last ...int) {
	if wrong {
		o.list = append(o.list, told{append(slices.Clone(place), last...), api.Fault{Code: code, At: at}})
	}
}

// up: of a type the one whose part it is, and which one; false: it has a name.
func up(s api.Spec, at int) (int, int, bool) {
	for around, n := range s.Nodes {
		if i := slices.Index(spec.Kids(n), at); i >= 0 {
			return around, i, true
		}
	}
	return 0, 0, false
}

// place: when a type of a name is told of.
func place(s api.Spec, at int) []int {
	around, i, ok := up(s, at)
	if ok {
		return append(place(s, around), i, 2)
	}
	return []int{slices.IndexFunc(s.Defs, func(d api.Def) bool { return d.Type == at }), 2}
}

// ahead: is a field's name there already, ahead of the part i of a type, or of those around it?
func ahead(s api.Spec, at, i int, name string) bool {
	for ok := true; ok; at, i, ok = up(s, at) {
		if n := s.Nodes[at]; n.Kind == api.Record && slices.ContainsFunc(n.Fields[:i], func(f api.Field) bool { return f.Name == name }) {
			return true
		}
	}
	return false
}

// check: what layer 14 tells of a specification, found by going up from each type.
func check(s api.Spec) api.Fault {
	if e := spec.Check(s); e != api.OK {
		return api.Fault{Code: e}
	}
	o := oracle{s: s}
	known := func(which int, name string) bool {
		return slices.ContainsFunc(s.Defs[:which], func(d api.Def) bool { return d.Name == name })
	}
	for i, d := range s.Defs {
		o.tell(!can(d.Name), api.ErrForm, d.Type, []int{i}, 0)
		o.tell(known(i, d.Name), api.ErrTwice, d.Type, []int{i}, 1)
	}
	for at, n := range s.Nodes {
		where := place(s, at)
		o.tell(n.Kind == api.Use && !known(where[0], n.Text), api.ErrUse, at, where)
		for i, f := range n.Fields {
			o.tell(!can(f.Name), api.ErrForm, at, where, i, 0)
			o.tell(ahead(s, at, i, f.Name), api.ErrTwice, at, where, i, 1)
		}
	}
	if len(o.list) == 0 {
		o.tell(depth(s, spec.Root(s)) > scope.MaxNest, api.ErrDeep, spec.Root(s), []int{len(s.Defs)})
	}
	slices.SortFunc(o.list, func(a, b told) int { return slices.Compare(a.place, b.place) })
	return append(o.list, told{})[0].fault
}

// depth: how deep a type of a specification is whose names are right.
func depth(s api.Spec, at int) int {
	n := s.Nodes[at]
	if n.Kind == api.Use {
		return depth(s, spec.Def(s, n.Text))
	}
	most := 0
	for _, part := range spec.Kids(n) {
		most = max(most, depth(s, part))
	}
	if n.Kind == api.Chain {
		return most + 2
	}
	return most + 1
}
