package proto_test

import (
	"bytes"
	"encoding/binary"
	"math"
	"slices"

	"guipure/proto"
	"guipure/sample"
)

// record: the first one of some bytes, and how many these are; 0: there is none.
func record(b []byte) (proto.Field, int) {
	key, n := binary.Uvarint(b)
	if n <= 0 || key < 8 || key > math.MaxUint32 {
		return proto.Field{}, 0
	}
	x := proto.Field{Number: int(key >> 3), Type: int(key & 7)}
	rest := b[n:]
	var m int
	switch x.Type {
	case 0:
		x.Value, m = binary.Uvarint(rest)
	case 1:
		if m = 8; len(rest) >= m {
			x.Value = binary.LittleEndian.Uint64(rest)
		}
	case 2:
		var size uint64
		if size, m = binary.Uvarint(rest); m > 0 {
			if size > uint64(len(rest)-m) {
				return proto.Field{}, 0
			}
			x.Data = rest[m : m+int(size)]
			m += int(size)
		}
	case 5:
		if m = 4; len(rest) >= m {
			x.Value = uint64(binary.LittleEndian.Uint32(rest))
		}
	}
	if m <= 0 || m > len(rest) {
		return proto.Field{}, 0
	}
	return x, n + m
}

// cut: the records that bytes are; false: they are none.
func cut(b []byte) ([]proto.Field, bool) {
	var list []proto.Field
	for len(b) > 0 {
		x, n := record(b)
		if n == 0 {
			return nil, false
		}
		list, b = append(list, x), b[n:]
	}
	return list, true
}

// message: the bytes of records.
func message(list ...proto.Field) []byte {
	var b []byte
	for _, x := range list {
		b = binary.AppendUvarint(b, uint64(x.Number)<<3|uint64(x.Type))
		switch x.Type {
		case 0:
			b = binary.AppendUvarint(b, x.Value)
		case 1:
			b = binary.LittleEndian.AppendUint64(b, x.Value)
		case 2:
			b = append(binary.AppendUvarint(b, uint64(len(x.Data))), x.Data...)
		case 5:
			b = binary.LittleEndian.AppendUint32(b, uint32(x.Value))
		}
	}
	return b
}

// same: are they the same records?
func same(a, b []proto.Field) bool { return slices.EqualFunc(a, b, alike) }

// alike: is it the same record?
func alike(x, y proto.Field) bool {
	return x.Number == y.Number && x.Type == y.Type && x.Value == y.Value && bytes.Equal(x.Data, y.Data)
}

// fields: some records, up to so many.
func fields(m *sample.Maker, many int) []proto.Field {
	var list []proto.Field
	for range m.UpTo(many + 1) {
		x := proto.Field{Number: 1 + int(m.Number(proto.MaxNumber-1)), Type: []int{0, 1, 2, 5}[m.UpTo(4)]}
		if m.UpTo(2) == 0 {
			x.Number = 1 + m.UpTo(3)
		}
		switch x.Type {
		case 2:
			for range m.UpTo(150) * m.UpTo(2) {
				x.Data = append(x.Data, byte(m.UpTo(256)))
			}
		case 5:
			x.Value = m.Number(math.MaxUint32)
		default:
			x.Value = m.Number(math.MaxUint64)
		}
		list = append(list, x)
	}
	return list
}
