package spec

import (
	"math"
	"slices"

	"guipure/api"
	"guipure/octet"
)

// Kids: the types of which a type is made, in order.
func Kids(n api.Node) []int {
	var out []int
	parts(n, func(part int) bool {
		out = append(out, part)
		return true
	})
	return out
}

// parts: they are handed on, in order, as long as they are wanted: whether they always were.
func parts(n api.Node, yield func(int) bool) bool {
	for _, kid := range n.Kids {
		if !yield(kid) {
			return false
		}
	}
	for _, f := range n.Fields {
		if !yield(f.Type) {
			return false
		}
	}
	for _, c := range n.Cases {
		if !yield(c.Type) {
			return false
		}
	}
	return n.Kind != api.Switch || n.Else < 0 || yield(n.Else)
}

// Number: is a type a number?
func Number(n api.Node) bool { return n.Kind == api.Fixed || n.Kind == api.Varint }

// Most: the greatest number of a type, whatever its range.
func Most(n api.Node) uint64 {
	if n.Kind == api.Fixed {
		return octet.Most(n.Width)
	}
	return math.MaxUint64
}

// checkNode: may a type be by itself, whatever its parts are?
func checkNode(n api.Node) api.Errno {
	switch {
	case !formed(n):
		return api.ErrForm
	case max(len(n.Kids), len(n.Fields), len(n.Cases)) > MaxParts:
		return api.ErrLong
	case n.Kind == api.Fixed && !octet.Width(n.Width):
		return api.ErrRange
	case !written(n):
		return api.ErrForm
	case Number(n) && (n.Min > n.Max || n.Max > Most(n)):
		return api.ErrRange
	case !Number(n) && (n.Min != 0 || n.Max != 0):
		return api.ErrForm
	case !worded(n):
		return api.ErrForm
	}
	return api.OK
}

// formed: is a type of a kind that there is, with lists as that must have them?
func formed(n api.Node) bool {
	return api.Fixed <= n.Kind && n.Kind <= api.Use && kidded(n) && switched(n) &&
		(n.Kind == api.Record) == (len(n.Fields) > 0)
}

// kidded: has it as many Kids as it must, and as many Last?
func kidded(n api.Node) bool {
	switch n.Kind {
	case api.Times, api.Many, api.Within:
		return len(n.Kids) == 1 && len(n.Last) == 0
	case api.Choice:
		return len(n.Kids) > 0 && len(n.Last) == 0
	case api.Chain:
		return len(n.Kids) > 0 && len(n.Last) == len(n.Kids)
	}
	return len(n.Kids) == 0 && len(n.Last) == 0
}

// switched: has it what a Switch must have, if it is one, and nothing of that, if it isn't?
func switched(n api.Node) bool {
	if n.Kind == api.Switch {
		return len(n.Cases) > 0 && n.Reg != "" && n.Else >= none
	}
	return len(n.Cases) == 0 && n.Reg == "" && n.Mod == 0 && n.Else == 0
}

// written: does it tell nothing of how numbers are written but what its kind does? Of one byte it doesn't matter which is first.
func written(n api.Node) bool {
	if n.Kind != api.Fixed && (n.Width != 0 || n.Little) || n.Width == 1 && n.Little {
		return false
	}
	return n.Kind == api.Varint || !n.Zig && !n.Lenient
}

// worded: has it a text and a number by which it goes just if it must, and is that whole?
func worded(n api.Node) bool {
	texts := n.Kind == api.Token || n.Kind == api.Use
	counts := n.Kind == api.Blob || n.Kind == api.Times || n.Kind == api.Within
	return texts == (n.Text != "") && (counts || n.Expr == api.Expr{}) &&
		(n.Expr.Reg != "") == (n.Expr.Mul != 0)
}

// alike: do two types say the same, whatever their parts are?
func alike(a, b api.Node) bool {
	return a.Kind == b.Kind && a.Width == b.Width && a.Little == b.Little &&
		a.Zig == b.Zig && a.Lenient == b.Lenient && a.Min == b.Min && a.Max == b.Max &&
		a.Text == b.Text && a.Expr == b.Expr && a.Reg == b.Reg && a.Mod == b.Mod &&
		len(a.Kids) == len(b.Kids) && slices.Equal(a.Last, b.Last) &&
		slices.EqualFunc(a.Fields, b.Fields, alikeField) &&
		slices.EqualFunc(a.Cases, b.Cases, func(x, y api.Case) bool { return x.Value == y.Value })
}

// alikeField: likewise of two fields.
func alikeField(x, y api.Field) bool {
	x.Type, y.Type = 0, 0
	return x == y
}

// Own: a node of its own.
func Own(n api.Node) api.Node {
	n.Kids, n.Last = own(n.Kids), own(n.Last)
	n.Fields, n.Cases = own(n.Fields), own(n.Cases)
	return n
}

// own: a list of its own; none of none.
func own[T any](list []T) []T {
	if list == nil {
		return nil
	}
	out := make([]T, len(list))
	copy(out, list)
	return out
}
