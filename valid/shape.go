package valid

import (
	"guipure/api"
	"guipure/spec"
)

// shape: has a tree what one of a type has, and nothing else? Whether a number is in its range, what bytes are, and how many there are, isn't asked.
func shape(n api.Node, t api.Tree) api.Errno {
	switch {
	case !told(n, t.Num),
		len(t.Data) > 0 && n.Kind != api.Token && n.Kind != api.Blob,
		!parted(n, len(t.Kids)):
		return api.ErrShape
	case t.Blank:
		return api.ErrBlank
	}
	return api.OK
}

// told: may a tree of a type have such a number? Of a Choice it tells one of its types, and so belongs to the shape.
func told(n api.Node, x uint64) bool {
	if n.Kind == api.Choice {
		return x < uint64(len(n.Kids))
	}
	return x == 0 || spec.Number(n)
}

// parted: may a tree of a type have so many parts?
func parted(n api.Node, many int) bool {
	switch n.Kind {
	case api.Record:
		return many == len(n.Fields)
	case api.Within, api.Switch, api.Choice:
		return many == 1
	case api.Chain:
		return many > 0
	case api.Times, api.Many: // how often a Times comes its number tells
		return true
	}
	return many == 0
}

// void: has a blank number nothing else?
func void(t api.Tree) bool {
	return t.Num == 0 && len(t.Data) == 0 && len(t.Kids) == 0
}
