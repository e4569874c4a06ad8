package emit

import (
	"slices"

	"guipure/api"
	"guipure/crc"
	"guipure/leb"
	"guipure/octet"
	"guipure/tree"
)

// output is the bytes of a tree so far.
type output struct {
	bytes []byte
	parts int // how many were met
	table crc.Table
	fault api.Fault // of the first checksum that is wrong
}

// part: one is met; those without parts of their own have bytes.
func (o *output) part(n api.Node, t api.Tree) {
	o.parts++
	switch n.Kind {
	case api.Fixed:
		b, _ := octet.Put(nil, t.Num, n.Width, n.Little) // it is in its range
		o.bytes = append(o.bytes, b...)
	case api.Varint:
		o.bytes = append(o.bytes, leb.Put(nil, t.Num)...)
	case api.Token, api.Blob:
		o.bytes = append(o.bytes, t.Data...)
	}
}

// fields: those of a Record; a checksum is reckoned when it comes, for all that it is of is ahead of it.
func (o *output) fields(n api.Node, t *api.Tree, field func(int)) {
	begins := []int{len(o.bytes)} // of each field, and of what comes behind the last one
	for i, f := range n.Fields {
		if f.Derive == api.SumOf {
			o.sum(&t.Kids[i], o.bytes[begins[named(n, f.Of)]:begins[named(n, f.To)+1]])
		}
		field(i)
		begins = append(begins, len(o.bytes))
	}
}

// named: which field of a Record has a name.
func named(n api.Node, name string) int {
	return slices.IndexFunc(n.Fields, func(f api.Field) bool { return f.Name == name })
}

// sum: the part that is met next is the checksum of these bytes.
func (o *output) sum(t *api.Tree, b []byte) {
	sum := uint64(o.table.Of(b...))
	switch {
	case t.Blank:
		*t = tree.Num(sum)
	case t.Num != sum && o.fault.Code == api.OK:
		o.fault = api.Fault{Code: api.ErrSum, At: o.parts}
	}
}
