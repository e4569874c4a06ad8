package sample

import (
	"math"

	"guipure/api"
)

// whole: a specification of types, some of which have the name main.
func whole(nodes []api.Node, kinds ...int) api.Spec {
	s := api.Spec{Nodes: nodes}
	for _, kind := range kinds {
		s.Defs = append(s.Defs, api.Def{Name: "main", Type: kind})
	}
	return s
}

// Nested: so many types, each in the next one.
func Nested(many int) api.Spec {
	nodes := []api.Node{{Kind: api.Empty}}
	for at := range many - 1 {
		nodes = append(nodes, api.Node{Kind: api.Many, Kids: []int{at}})
	}
	return whole(nodes, many-1)
}

// Refused: specifications, as texts, that aren't accepted: by their names, their numbers, or what they begin with.
func Refused() []string {
	return []string{
		"main = a;", "main = { a: u8; a: u8; };",
		"main = bytes[n];", "main = { x: u8; y: u8; z: bytes[n]; };", "main = { n: u8 = size(d); d: bytes[3]; };", "main = { c: u32be = crc(d..d); d: u8; };",
		"main = /(/;", "main = /a*/;", "a = /(/; main = u8;", "main = many bytes[0];", "main = { m: many u8; x: u8; };",
		"main = oneof { u8 0..9 | varint 9..9 };", "main = chain { u8 };", "a = chain { u8 }; main = u8;",
	}
}

// Wrongs: specifications that may not be, mostly: those that hold themselves, those whose parts aren't there, those that hold one very often, those whose names use one another in a ring, and some by chance.
func Wrongs() []api.Spec {
	choice := func(kids ...int) api.Node { return api.Node{Kind: api.Choice, Kids: kids} }
	often := []api.Node{{Kind: api.Empty}}
	for at := range 100 {
		often = append(often, choice(at, at, at))
	}
	nodes := func(list ...api.Node) []api.Node { return list }
	use := func(name string) api.Node { return api.Node{Kind: api.Use, Text: name} }
	out := []api.Spec{
		{}, whole(nodes(choice(0)), 0), whole(nodes(choice(1), choice(0, 1, 0)), 1), whole(often, 100), whole(often, 100, 100),
		whole(nodes(choice(-1, 5, math.MinInt, math.MaxInt)), 0), whole(nodes(api.Node{}), 0, -1, 5, math.MaxInt), Nested(5000),
		whole(nodes(use("main")), 0), whole(nodes(use("main"), use("main")), 0, 1), whole(nodes(use("a"), use("")), 0, 1),
		{Nodes: nodes(use("b"), use("a")), Defs: []api.Def{{Name: "a", Type: 0}, {Name: "b", Type: 1}}},
	}
	m := Maker{Seed: 6}
	for range 300 {
		out = append(out, m.wrong())
	}
	return out
}

// wrong: a specification by chance, which hardly ever may be.
func (m *Maker) wrong() api.Spec {
	var s api.Spec
	some := func() int { return m.UpTo(9) - 2 }
	for range m.UpTo(6) {
		n := api.Node{
			Kind: some() + m.UpTo(9), Width: some(), Else: some(),
			Kids: make([]int, m.UpTo(3)), Fields: make([]api.Field, m.UpTo(2)), Cases: make([]api.Case, m.UpTo(2)),
		}
		for i := range n.Kids {
			n.Kids[i] = some()
		}
		for i := range n.Fields {
			n.Fields[i].Type = some()
		}
		for i := range n.Cases {
			n.Cases[i].Type = some()
		}
		s.Nodes = append(s.Nodes, n)
	}
	for range m.UpTo(3) {
		s.Defs = append(s.Defs, api.Def{Name: m.Name(), Type: some()})
	}
	return s
}
