package parse

import (
	"guipure/api"
	"guipure/lex"
	"guipure/spec"
)

// none is the Else of a Switch without one.
const none = -1

// kind: a type that is so deep, behind its parts: its number.
func (r *reader) kind(deep int) int {
	if deep > MaxDeep {
		r.owe(api.ErrDeep)
	}
	at, e := r.made.Add(r.node(deep))
	r.owe(e)
	return at
}

// node: likewise, by the token with which it begins.
func (r *reader) node(deep int) api.Node {
	switch t := r.next(); {
	case t.Kind == lex.Pattern && t.Text != "":
		r.pass()
		return api.Node{Kind: api.Token, Text: t.Text}
	case t.Kind == lex.Name && begins(t.Text):
		r.pass()
		return r.named(t.Text, deep)
	case r.took(lex.Sign, "{"):
		return r.record(deep)
	}
	r.fail(api.ErrForm)
	return api.Node{}
}

// named: the type that begins with a name, or a Word, which was gone past.
func (r *reader) named(name string, deep int) api.Node {
	if width, little, ok := Fixed(name); ok {
		return r.ranged(api.Node{Kind: api.Fixed, Width: width, Little: little})
	}
	switch name {
	case "varint", "zigzag":
		lenient := r.took(lex.Name, "lenient")
		return r.ranged(api.Node{Kind: api.Varint, Zig: name == "zigzag", Lenient: lenient})
	case "bytes":
		return api.Node{Kind: api.Blob, Expr: r.often()}
	case "times":
		return r.around(api.Node{Kind: api.Times, Expr: r.often()}, deep)
	case "within":
		return r.around(api.Node{Kind: api.Within, Expr: r.often()}, deep)
	case "many":
		return r.around(api.Node{Kind: api.Many}, deep)
	case "switch":
		return r.choose(deep)
	case "oneof":
		return r.among(api.Choice, deep)
	case "chain":
		return r.among(api.Chain, deep)
	case "empty":
		return api.Node{Kind: api.Empty}
	}
	return api.Node{Kind: api.Use, Text: name}
}

// ranged: a number, and its range, if it has one.
func (r *reader) ranged(n api.Node) api.Node {
	n.Max = spec.Most(n)
	if r.next().Kind == lex.Number {
		n.Min = r.number(0, most)
		r.sign("..")
		n.Max = r.number(n.Min, n.Max)
	}
	return n
}

// often: how many, between `[` and `]`.
func (r *reader) often() api.Expr {
	r.sign("[")
	x := r.reckoned()
	r.sign("]")
	return x
}

// reckoned: a number, or how it is reckoned of another one.
func (r *reader) reckoned() api.Expr {
	x := api.Expr{Mul: 1}
	if r.next().Kind == lex.Number {
		n := r.number(0, most)
		if !r.took(lex.Sign, "*") {
			return api.Expr{Add: n}
		}
		if n == 0 {
			r.owe(api.ErrRange)
		}
		x.Mul = n
	}
	x.Reg = r.name()
	if r.took(lex.Sign, "+") {
		x.Add = r.number(0, most)
	}
	return x
}

// around: a type, and the only one that it is made of.
func (r *reader) around(n api.Node, deep int) api.Node {
	n.Kids = []int{r.kind(deep + 1)}
	return n
}

// record: a Record, behind its `{`.
func (r *reader) record(deep int) api.Node {
	n := api.Node{Kind: api.Record}
	for ok := true; ok; ok = r.next().Kind == lex.Name {
		r.room(len(n.Fields))
		n.Fields = append(n.Fields, r.field(deep))
	}
	r.sign("}")
	return n
}

// field: a field of a Record that is so deep.
func (r *reader) field(deep int) api.Field {
	f := api.Field{Name: r.name()}
	r.sign(":")
	f.Type = r.kind(deep + 1)
	if r.took(lex.Sign, "=") {
		r.derive(&f)
	}
	r.sign(";")
	return f
}

// derive: how a field is derived.
func (r *reader) derive(f *api.Field) {
	switch {
	case r.took(lex.Name, "size"):
		f.Derive = api.SizeOf
	case r.took(lex.Name, "count"):
		f.Derive = api.CountOf
	case r.took(lex.Name, "crc"):
		f.Derive = api.SumOf
	default:
		r.fail(api.ErrForm)
	}
	r.sign("(")
	f.Of = r.name()
	if f.Derive == api.SumOf {
		r.sign("..")
		f.To = r.name()
	}
	r.sign(")")
}

// choose: a Switch, behind its word.
func (r *reader) choose(deep int) api.Node {
	n := api.Node{Kind: api.Switch, Reg: r.name(), Else: none}
	if r.took(lex.Sign, "%") {
		n.Mod = r.number(1, most)
	}
	r.sign("{")
	for ok := true; ok; ok = r.next().Kind == lex.Number {
		r.room(len(n.Cases))
		c := api.Case{Value: r.number(0, most)}
		c.Type = r.told(deep)
		n.Cases = append(n.Cases, c)
	}
	if r.took(lex.Name, "else") {
		n.Else = r.told(deep)
	}
	r.sign("}")
	return n
}

// told: what stands behind a case of a Switch that is so deep: its type.
func (r *reader) told(deep int) int {
	r.sign(":")
	at := r.kind(deep + 1)
	r.sign(";")
	return at
}

// among: a Choice or a Chain, behind its word.
func (r *reader) among(kind, deep int) api.Node {
	n := api.Node{Kind: kind}
	r.sign("{")
	for ok := true; ok; ok = r.took(lex.Sign, "|") {
		r.room(len(n.Kids))
		if kind == api.Chain {
			n.Last = append(n.Last, r.took(lex.Name, "last"))
		}
		n.Kids = append(n.Kids, r.kind(deep+1))
	}
	r.sign("}")
	return n
}

// begins: may a type begin with a Name?
func begins(name string) bool {
	switch name {
	case "lenient", "else", "last", "size", "count", "crc":
		return false
	}
	return true
}
