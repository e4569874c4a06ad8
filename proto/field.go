package proto

import (
	"math"

	"guipure/api"
	"guipure/leb"
	"guipure/octet"
)

// The wire types.
const (
	Number = 0
	Eight  = 1
	Bytes  = 2
	Four   = 5
)

// MaxNumber is the greatest number of a field.
const MaxNumber = 1<<29 - 1

// Field is a record: its field's number, its wire type, and its value: a number, or bytes.
type Field struct {
	Number int
	Type   int
	Value  uint64
	Data   []byte
}

// Check: may a record be?
func Check(x Field) api.Errno {
	switch {
	case x.Number < 1 || x.Number > MaxNumber:
		return api.ErrRange
	case x.Type != Number && x.Type != Eight && x.Type != Bytes && x.Type != Four:
		return api.ErrCase
	case x.Type == Bytes && x.Value != 0, x.Type != Bytes && len(x.Data) > 0:
		return api.ErrShape
	case x.Type == Four && x.Value > math.MaxUint32:
		return api.ErrValue
	}
	return api.OK
}

// Find: the records of a field's number, in order.
func Find(number int, list ...Field) []Field {
	var out []Field
	for _, x := range list {
		if x.Number == number {
			out = append(out, x.own())
		}
	}
	return out
}

// Last: the last record of a field's number; false: there is none.
func Last(number int, list ...Field) (Field, bool) {
	for i := len(list) - 1; i >= 0; i-- {
		if list[i].Number == number {
			return list[i].own(), true
		}
	}
	return Field{}, false
}

// own: a record whose bytes are its own.
func (x Field) own() Field {
	x.Data = append([]byte(nil), x.Data...)
	return x
}

// Signed: a number's value with its sign unfolded.
func (x Field) Signed() int64 { return leb.Unfold(x.Value) }

// Packed: the numbers that a record's bytes are, one behind the other.
func (x Field) Packed() ([]uint64, api.Errno) {
	if x.Type != Bytes {
		return nil, api.ErrCase
	}
	var list []uint64
	for r := octet.New(x.Data); r.Left() > 0; {
		n, e := leb.Read(r, true)
		if e != api.OK {
			return nil, e
		}
		list = append(list, n)
	}
	return list, api.OK
}

// Pack: a record of numbers, one behind the other.
func Pack(number int, list ...uint64) Field {
	x := Field{Number: number, Type: Bytes}
	for _, n := range list {
		x.Data = append(x.Data, leb.Put(nil, n)...)
	}
	return x
}
