package first

import (
	"guipure/api"
	"guipure/class"
	"guipure/spec"
)

const (
	values = 256 // how many a byte has
	more   = 128 // what is put to a Varint's byte, if there is one more
)

// Fixed: the bytes with which a Fixed may begin.
func Fixed(n api.Node) class.Set {
	if n.Little {
		return left(n.Min, n.Max, values)
	}
	unit := spec.Most(n)/values + 1 // one in the first byte is so much
	return class.Range(byte(n.Min/unit), byte(n.Max/unit))
}

// Varint: the bytes with which a Varint may begin.
func Varint(n api.Node) class.Set {
	var out class.Set
	if n.Min < more {
		out = class.Range(byte(n.Min), byte(min(n.Max, more-1)))
	}
	if n.Lenient {
		out = out.Or(longer(out))
	}
	if n.Max >= more {
		out = out.Or(longer(left(max(n.Min, more), n.Max, more)))
	}
	return out
}

// longer: these bytes, as they are ahead of one more.
func longer(s class.Set) class.Set {
	var out class.Set
	for c := range s.Each {
		out = out.Or(class.Of(c | more))
	}
	return out
}

// left: what is left by a number, which is 256 at most, of all from one to another one.
func left(from, to, by uint64) class.Set {
	var out class.Set
	for i := range min(to-from, by-1) + 1 { // behind so many they come again
		out = out.Or(class.Of(byte((from + i) % by)))
	}
	return out
}
