package reg

import (
	"guipure/api"
	"guipure/spec"
)

// sumWidth is how many bytes a checksum has.
const sumWidth = 4

// derivable: can a Record's field be derived as it says? All types within the Record are linked.
func (c *checker) derivable(n api.Node, i int) bool {
	f := n.Fields[i]
	switch f.Derive {
	case api.Plain:
		return f.Of == "" && f.To == ""
	case api.SizeOf, api.CountOf:
		return c.measurable(n, i)
	case api.SumOf:
		from, to := named(n, f.Of), named(n, f.To)
		return whole(c.spec.Nodes[f.Type]) && none < from && from <= to && to < i
	}
	return false
}

// whole: can a number be any checksum?
func whole(n api.Node) bool {
	return n.Kind == api.Fixed && n.Width == sumWidth && n.Min == 0 && n.Max == spec.Most(n)
}

// measurable: likewise of a size or a count.
func (c *checker) measurable(n api.Node, i int) bool {
	f := n.Fields[i]
	number, of := c.spec.Nodes[f.Type], named(n, f.Of)
	if !spec.Number(number) || number.Zig || f.To != "" || of <= i {
		return false
	}
	at := n.Fields[of].Type
	measured := c.spec.Nodes[at]
	if measured.Expr != (api.Expr{Reg: f.Name, Mul: 1}) {
		return false // the size or count would have to be reckoned back
	}
	if f.Derive == api.CountOf {
		return measured.Kind == api.Times
	}
	return measured.Kind == api.Blob || measured.Kind == api.Within && c.free(at)
}

// free: does no type within a Within go by the size of a Within that is around it? That may be known only when all that is within is.
func (c *checker) free(within int) bool {
	return spec.Each(c.spec, within, func(at int) bool {
		l, ok := c.links[at]
		inside := l.Record < within // of Records around one type those in each other rise, as layer 11 has it
		return at == within || !ok || inside || !c.sizesWithin(l)
	})
}

// sizesWithin: is the number by which a type goes the size of a Within?
func (c *checker) sizesWithin(l Link) bool {
	n := c.spec.Nodes[l.Record]
	f := n.Fields[l.Field]
	of := named(n, f.Of)
	return f.Derive == api.SizeOf && of != none && c.spec.Nodes[n.Fields[of].Type].Kind == api.Within
}
