package proto_test

import (
	"bytes"
	"encoding/binary"
	"math"
	"slices"
	"testing"

	"guipure/api"
	"guipure/proto"
	"guipure/sample"
)

// P28.3

func TestFind(t *testing.T) {
	a, b := proto.Field{Number: 1, Value: 5}, proto.Field{Number: 2, Type: 2, Data: []byte("b")}
	c, d := proto.Field{Number: 1, Type: 5, Value: 6}, proto.Field{Number: -7, Type: 99, Data: []byte("d")}
	list := []proto.Field{a, b, c, d, a}
	for _, w := range []struct {
		number int
		want   []proto.Field
	}{
		{1, []proto.Field{a, c, a}},
		{2, []proto.Field{b}},
		{-7, []proto.Field{d}}, // whether it may be isn't asked
		{0, nil},
		{3, nil},
		{-1, nil},
		{math.MinInt, nil},
		{math.MaxInt, nil},
	} {
		if got := proto.Find(w.number, list...); !same(got, w.want) {
			t.Errorf("%d: %v, want %v", w.number, got, w.want)
		}
		if got := proto.Find(w.number); len(got) != 0 {
			t.Errorf("%d: %v of none", w.number, got)
		}
		got, ok := proto.Last(w.number, list...)
		if many := len(w.want); ok != (many > 0) || ok && !alike(got, w.want[many-1]) || !ok && (!alike(got, proto.Field{}) || got.Data != nil) {
			t.Errorf("%d: %v, %v, want the last of %v", w.number, got, ok, w.want)
		}
		if got, ok := proto.Last(w.number); ok || !alike(got, proto.Field{}) {
			t.Errorf("%d: %v of none", w.number, got)
		}
	}
	if got, ok := proto.Last(1, c, b, a); !ok || !alike(got, a) {
		t.Errorf("%v, %v", got, ok)
	}
}

func TestFindSamples(t *testing.T) {
	m := &sample.Maker{Seed: 283}
	for range 500 {
		list := fields(m, 9)
		for number := range 5 {
			want := slices.DeleteFunc(slices.Clone(list), func(x proto.Field) bool { return x.Number != number })
			if got := proto.Find(number, list...); !same(got, want) {
				t.Errorf("%d of %v: %v", number, list, got)
			}
			got, ok := proto.Last(number, list...)
			if ok != (len(want) > 0) || ok && !alike(got, want[len(want)-1]) {
				t.Errorf("%d of %v: %v, %v", number, list, got, ok)
			}
		}
	}
}

func TestSigned(t *testing.T) {
	for value, want := range map[uint64]int64{
		0: 0, 1: -1, 2: 1, 3: -2, 4: 2, 300: 150, 301: -151, math.MaxUint32: math.MinInt32, math.MaxUint32 - 1: math.MaxInt32,
		math.MaxUint64: math.MinInt64, math.MaxUint64 - 1: math.MaxInt64,
	} {
		for _, kind := range []int{0, 1, 2, 5, -1} {
			if got := (proto.Field{Type: kind, Value: value}).Signed(); got != want {
				t.Errorf("%d: %d, want %d", value, got, want)
			}
		}
	}
}

func TestPacked(t *testing.T) {
	for _, w := range []struct {
		bytes string
		want  []uint64
		code  api.Errno
	}{
		{"", nil, api.OK},
		{"00", []uint64{0}, api.OK},
		{"03 8e 02 9e a7 05", []uint64{3, 270, 86942}, api.OK},
		{"80 00 81 80 80 00 7f", []uint64{0, 1, 127}, api.OK}, // they may be longer than they must
		{"ff ff ff ff ff ff ff ff ff 01", []uint64{math.MaxUint64}, api.OK},
		{"80 80 80 80 80 80 80 80 80 00 05", []uint64{0, 5}, api.OK},
		{"80", nil, api.ErrEnd},
		{"01 02 80", nil, api.ErrEnd},
		{"01 ff ff ff ff ff ff ff ff ff", nil, api.ErrEnd},
		{"ff ff ff ff ff ff ff ff ff 02", nil, api.ErrVar},
		{"01 80 80 80 80 80 80 80 80 80 80 00 80", nil, api.ErrVar}, // the first error
	} {
		x := proto.Field{Number: 1, Type: proto.Bytes, Data: raw(t, w.bytes)}
		if got, e := x.Packed(); e != w.code || !slices.Equal(got, w.want) || e != api.OK && got != nil {
			t.Errorf("%s: %v, %v, want %v, %v", w.bytes, got, e, w.want, w.code)
		}
		for _, kind := range []int{0, 1, 5, 3, -2, 10, math.MinInt} {
			x.Type = kind
			if got, e := x.Packed(); e != api.ErrCase || got != nil {
				t.Errorf("%s of type %d: %v, %v", w.bytes, kind, got, e)
			}
		}
	}
	x := proto.Field{Type: proto.Bytes, Value: 7, Data: []byte{1, 2}} // no more is asked
	if got, e := x.Packed(); e != api.OK || !slices.Equal(got, []uint64{1, 2}) {
		t.Errorf("%v, %v", got, e)
	}
}

func TestPack(t *testing.T) {
	m := &sample.Maker{Seed: 8}
	for _, number := range []int{1, 7, proto.MaxNumber, 0, -5, math.MaxInt} {
		for many := range 50 {
			list := make([]uint64, many, many+5)
			var want []byte
			for i := range list {
				list[i] = m.Number(math.MaxUint64)
				want = binary.AppendUvarint(want, list[i])
			}
			was := slices.Clone(list)
			x := proto.Pack(number, list...)
			if !alike(x, proto.Field{Number: number, Type: proto.Bytes, Data: want}) || !slices.Equal(list, was) {
				t.Errorf("%v: %v, want %x", list, x, want)
			}
			got, e := x.Packed()
			if e != api.OK || !slices.Equal(got, list) {
				t.Errorf("%v: %v, %v", list, got, e)
			}
			clear(got[:cap(got)])
			if !bytes.Equal(x.Data, want) {
				t.Errorf("%x", x.Data)
			}
		}
	}
}

// Many numbers are put together in time.
func TestPackMany(t *testing.T) {
	list := make([]uint64, 1<<20)
	for i := range list {
		list[i] = uint64(i) << 40
	}
	got, e := proto.Pack(1, list...).Packed()
	if e != api.OK || !slices.Equal(got, list) {
		t.Errorf("%d, %v", len(got), e)
	}
}
