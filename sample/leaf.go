package sample

import (
	"strconv"

	"guipure/api"
	"guipure/class"
)

// leaf: a type without parts.
func (g *grower) leaf(w want, a ahead) api.Node {
	switch how := g.UpTo(8); {
	case how == 0 && !w.solid:
		return api.Node{Kind: api.Empty}
	case how < 3 && w.bytes == class.All():
		return api.Node{Kind: api.Blob, Expr: g.often(w, a)}
	case how == 3 && !w.solid && g.UpTo(3) == 0:
		return api.Node{Kind: api.Blob}
	case how < 6:
		if n, ok := g.use(w); ok {
			return n
		}
	}
	switch {
	case w.bytes.Empty() && !w.solid:
		return api.Node{Kind: api.Empty}
	case w.bytes.Empty(): // it begins with none, and isn't empty either: there is no such tree
		return api.Node{Kind: api.Within, Expr: api.Expr{Add: 1}, Kids: []int{g.put(api.Node{Kind: api.Empty})}}
	case g.UpTo(2) == 0:
		return g.number(w.bytes)
	}
	return g.token(w.bytes)
}

// use: a Use of a name ahead, if one is as it is wanted.
func (g *grower) use(w want) (api.Node, bool) {
	var list []int
	for i, other := range g.wants {
		if w.allows(other) {
			list = append(list, i)
		}
	}
	if len(list) == 0 {
		return api.Node{}, false
	}
	return api.Node{Kind: api.Use, Text: "n" + strconv.Itoa(list[g.UpTo(len(list))])}, true
}

// byteOf: one of some bytes.
func (g *grower) byteOf(s class.Set) byte {
	list := s.Bytes()
	return list[g.UpTo(len(list))]
}

// number: one that begins with one of some bytes.
func (g *grower) number(s class.Set) api.Node {
	if s == class.All() && g.UpTo(2) == 0 {
		return g.Maker.leaf(api.Fixed + g.UpTo(2))
	}
	c := g.byteOf(s)
	to := c
	for to < 255 && s.Has(to+1) && g.UpTo(8) > 0 {
		to++
	}
	low, high := uint64(c), uint64(to)
	switch g.UpTo(5) {
	case 0:
		return api.Node{Kind: api.Fixed, Width: 2, Min: low<<8 + uint64(g.UpTo(256)), Max: high<<8 + 255}
	case 1:
		rest := uint64(g.UpTo(256)) << 8
		return api.Node{Kind: api.Fixed, Width: 3, Little: true, Min: rest + low, Max: rest + high}
	case 2:
		return g.varint(c, s)
	}
	return api.Node{Kind: api.Fixed, Width: 1, Min: low, Max: high}
}

// varint: one that begins with a byte; with a greater one, too, if it may be longer than it must.
func (g *grower) varint(c byte, s class.Set) api.Node {
	n := api.Node{Kind: api.Varint, Zig: g.UpTo(2) == 0, Min: uint64(c), Max: uint64(c)}
	if c >= 128 {
		n.Min += 128 * uint64(g.UpTo(100))
		n.Max = n.Min
	}
	n.Lenient = s.Has(c|128) && g.UpTo(2) == 0
	return n
}

// token: bytes that begin with one of some, none of which go on as others.
func (g *grower) token(s class.Set) api.Node {
	begin := class.Of(g.byteOf(s), g.byteOf(s), g.byteOf(s))
	list := []string{"", "[a-z]{2}", "[a-z]*;", "(ab|cd?e|;)", `\x00`}
	return api.Node{Kind: api.Token, Text: class.Text(begin) + list[g.UpTo(len(list))]}
}
