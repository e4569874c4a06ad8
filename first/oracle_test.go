package first_test

import (
	"slices"

	"guipure/api"
	"guipure/auto"
	"guipure/class"
	"guipure/dfa"
	"guipure/first"
	"guipure/leb"
	"guipure/octet"
	"guipure/reg"
	"guipure/regex"
	"guipure/spec"
)

// told is an error, and when it is told: the first one is that whose place is the least.
type told struct {
	place []int
	fault api.Fault
}

// Where in a type's place its own faults are, that come ahead of its parts, behind one, or behind all.
const (
	ahead  = -1
	behind = 1
	rear   = 1000
)

// automaton: that of a Token's text.
func automaton(text string) (*dfa.Auto, api.Errno) {
	n, f := regex.Parse(text)
	if f.Code != api.OK {
		return nil, f.Code
	}
	return dfa.Of(n)
}

// tries: numbers of a range, by which all bytes are met with which one of these may begin.
func tries(n api.Node) []uint64 {
	var out []uint64
	add := func(x uint64) {
		if n.Min <= x && x <= n.Max {
			out = append(out, x)
		}
	}
	for i := range uint64(300) {
		add(n.Min + i)
		add(128 + i)
	}
	for c := range uint64(256) {
		for shift := 0; shift < 64; shift += 8 {
			add(c << shift)
		}
	}
	return out
}

// begins: the bytes with which a number may begin, by what layers 1 and 2 write.
func begins(n api.Node) class.Set {
	var out class.Set
	for _, x := range tries(n) {
		if n.Kind == api.Fixed {
			b, _ := octet.Put(nil, x, n.Width, n.Little)
			out = out.Or(class.Of(b[0]))
			continue
		}
		out = out.Or(class.Of(leb.Put(nil, x)[0]))
		if n.Lenient {
			for long := leb.Len(x); long <= leb.MaxLen; long++ {
				b, _ := leb.Pad(nil, x, long)
				out = out.Or(class.Of(b[0]))
			}
		}
	}
	return out
}

// kinds: a type's parts; of a Use its name's type.
func kinds(s api.Spec, at int) []int {
	if n := s.Nodes[at]; n.Kind == api.Use {
		return []int{spec.Def(s, n.Text)}
	}
	return spec.Kids(s.Nodes[at])
}

// some, every: does one of some types, or each, have something?
func some(s api.Spec, list []int, has func(api.Spec, int) bool) bool {
	return slices.ContainsFunc(list, func(at int) bool { return has(s, at) })
}

func every(s api.Spec, list []int, has func(api.Spec, int) bool) bool {
	return !slices.ContainsFunc(list, func(at int) bool { return !has(s, at) })
}

// null: may a type be empty?
func null(s api.Spec, at int) bool {
	switch n := s.Nodes[at]; n.Kind {
	case api.Blob, api.Times, api.Within:
		return n.Expr.Add == 0
	case api.Many, api.Empty:
		return true
	case api.Record:
		return every(s, kinds(s, at), null)
	case api.Switch, api.Use:
		return some(s, kinds(s, at), null)
	}
	return false
}

// open: does a type go on to the limit?
func open(s api.Spec, at int) bool {
	list := kinds(s, at)
	switch s.Nodes[at].Kind {
	case api.Many:
		return true
	case api.Record:
		return open(s, list[len(list)-1])
	case api.Switch, api.Choice, api.Chain, api.Use:
		return some(s, list, open)
	}
	return false
}

// begin: the bytes with which a type may begin.
func begin(s api.Spec, at int) class.Set {
	n, list := s.Nodes[at], kinds(s, at)
	switch n.Kind {
	case api.Fixed, api.Varint:
		return begins(n)
	case api.Token:
		a, e := automaton(n.Text)
		if e != api.OK {
			return class.Set{}
		}
		return auto.First(a)
	case api.Blob, api.Times:
		if n.Expr.Reg == "" && n.Expr.Add == 0 {
			return class.Set{}
		}
		if n.Kind == api.Blob {
			return class.All()
		}
	case api.Record:
		if solid := slices.IndexFunc(list, func(at int) bool { return !null(s, at) }); solid >= 0 {
			list = list[:solid+1]
		}
	}
	var out class.Set
	for _, part := range list {
		out = out.Or(begin(s, part))
	}
	return out
}

// infos: of each type what is known.
func infos(s api.Spec) []first.Info {
	var out []first.Info
	for at := range s.Nodes {
		out = append(out, first.Info{First: begin(s, at), Null: null(s, at), Open: open(s, at)})
	}
	return out
}

// oracle collects all errors of a specification whose numbers are right, whatever is told first.
type oracle struct {
	s     api.Spec
	infos []first.Info
	list  []told
}

func (o *oracle) tell(wrong bool, code api.Errno, at int, place []int, last ...int) {
	if wrong {
		o.list = append(o.list, told{append(slices.Clone(place), last...), api.Fault{Code: code, At: at}})
	}
}

// kind: those of a type, which is looked at then, and of its parts.
func (o *oracle) kind(at int, place []int) {
	n := o.s.Nodes[at]
	for i, c := range n.Cases {
		o.tell(n.Mod != 0 && c.Value >= n.Mod, api.ErrRange, at, place, ahead, i, 0)
		for _, other := range n.Cases[:i] {
			o.tell(other.Value == c.Value, api.ErrTwice, at, place, ahead, i, 1)
		}
	}
	parts := spec.Kids(n)
	for i, part := range parts {
		o.kind(part, append(slices.Clone(place), i, 0))
		info := o.infos[part]
		clash := slices.ContainsFunc(parts[:i], func(other int) bool { return !info.First.And(o.infos[other].First).Empty() })
		many := n.Kind == api.Times || n.Kind == api.Many
		among := n.Kind == api.Choice || n.Kind == api.Chain
		o.tell(info.Null && (many || among), api.ErrEmpty, at, place, i, behind, 0)
		o.tell(clash && among, api.ErrClash, at, place, i, behind, 1)
		o.tell(info.Open && (many || n.Kind == api.Record && i < len(parts)-1 || n.Kind == api.Chain && !n.Last[i]), api.ErrPrefix, at, place, i, behind, 2)
	}
	o.tell(n.Kind == api.Chain && !slices.Contains(n.Last, true), api.ErrForm, at, place, rear, 0)
	if n.Kind == api.Token {
		a, e := automaton(n.Text)
		o.tell(e != api.OK, e, at, place, rear, 0)
		o.tell(e == api.OK && (auto.Null(a) || auto.Empty(a)), api.ErrEmpty, at, place, rear, 1)
		o.tell(e == api.OK && !auto.Prefix(a), api.ErrPrefix, at, place, rear, 2)
	}
}

// check: what layer 16 tells of a specification.
func check(s api.Spec) api.Fault {
	if f := reg.Check(s); f.Code != api.OK {
		return f
	}
	o := oracle{s: s, infos: infos(s)}
	for i, d := range s.Defs {
		o.kind(d.Type, []int{i})
	}
	slices.SortStableFunc(o.list, func(a, b told) int { return slices.Compare(a.place, b.place) })
	return append(o.list, told{})[0].fault
}
