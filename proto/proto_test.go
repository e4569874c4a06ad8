package proto_test

import (
	"bytes"
	"encoding/hex"
	"fmt"
	"math"
	"slices"
	"strings"
	"sync"
	"testing"

	"guipure/api"
	"guipure/lower"
	"guipure/proto"
	"guipure/sample"
)

// raw: the bytes of digits to the base 16, with blanks where one likes.
func raw(t *testing.T, digits string) []byte {
	t.Helper()
	b, err := hex.DecodeString(strings.ReplaceAll(digits, " ", ""))
	if err != nil {
		t.Fatal(err)
	}
	return b
}

// trial: how reading is tried.
func trial(t *testing.T) sample.Format[[]proto.Field] {
	t.Helper()
	r, f := lower.Make(proto.Spec())
	if f.Code != api.OK {
		t.Fatal(f)
	}
	return sample.Format[[]proto.Field]{Read: proto.New().Read, Program: r, Cut: cut, Same: same, Text: text}
}

// text: records as a text.
func text(list []proto.Field) string { return fmt.Sprint(list) }

// wantRead tells what is wrong with what is read of bytes.
func wantRead(t *testing.T, x sample.Format[[]proto.Field], b []byte, caps api.Caps) api.Fault {
	t.Helper()
	f, wrong := x.Try(b, caps)
	if wrong != "" {
		t.Error(wrong)
	}
	return f
}

// P28.1

func TestText(t *testing.T) {
	if wrong := sample.Source(proto.Text, proto.Spec); wrong != "" {
		t.Error(wrong)
	}
}

func TestNumbers(t *testing.T) {
	if proto.Number != 0 || proto.Eight != 1 || proto.Bytes != 2 || proto.Four != 5 || proto.MaxNumber != 536870911 {
		t.Error("the wire types, MaxNumber")
	}
}

func TestReadRightOnes(t *testing.T) {
	x := trial(t)
	for _, w := range []struct {
		bytes string
		want  []proto.Field
	}{
		{"", nil},
		{"08 00", []proto.Field{{Number: 1}}},
		{"08 96 01 12 02 61 62", []proto.Field{{Number: 1, Value: 150}, {Number: 2, Type: 2, Data: []byte("ab")}}},
		{"09 01 02 03 04 05 06 07 08", []proto.Field{{Number: 1, Type: 1, Value: 0x0807060504030201}}},
		{"0d ff ff ff ff", []proto.Field{{Number: 1, Type: 5, Value: math.MaxUint32}}},
		{"0a 00", []proto.Field{{Number: 1, Type: 2}}},
		{"0a 01 0a 0a 00", []proto.Field{{Number: 1, Type: 2, Data: []byte{10}}, {Number: 1, Type: 2}}},
		{"f8 ff ff ff 0f 07", []proto.Field{{Number: proto.MaxNumber, Value: 7}}},
		{"fd ff ff ff 0f 07 00 00 00", []proto.Field{{Number: proto.MaxNumber, Type: 5, Value: 7}}},
		{"88 80 00 96 81 00", []proto.Field{{Number: 1, Value: 150}}}, // they may be longer than they must
		{"88 80 80 80 80 80 80 80 80 00 96 81 80 80 80 80 80 80 80 00", []proto.Field{{Number: 1, Value: 150}}},
		{"0a 83 80 00 01 02 03", []proto.Field{{Number: 1, Type: 2, Data: []byte{1, 2, 3}}}},
		{"08 ff ff ff ff ff ff ff ff ff 01", []proto.Field{{Number: 1, Value: math.MaxUint64}}},
		{"10 01 08 02 10 03", []proto.Field{{Number: 2, Value: 1}, {Number: 1, Value: 2}, {Number: 2, Value: 3}}},
	} {
		b := raw(t, w.bytes)
		if got, fault := x.Read(b, sample.Ample()); fault != (api.Fault{}) || !same(got, w.want) {
			t.Errorf("%s: %v, %v, want %v", w.bytes, got, fault, w.want)
		}
		wantRead(t, x, b, sample.Ample())
		for long := range len(b) {
			wantRead(t, x, b[:long], sample.Ample())
		}
	}
}

func TestReadWrongOnes(t *testing.T) {
	x := trial(t)
	for _, w := range []struct {
		bytes string
		code  api.Errno
		at    int
	}{
		{"00", api.ErrValue, 0}, // the number 0
		{"00 00", api.ErrValue, 0},
		{"07", api.ErrValue, 0},
		{"80 00", api.ErrValue, 0},
		{"08 00 07 00", api.ErrValue, 2},
		{"80 80 80 80 10 00", api.ErrValue, 0},           // 2^32
		{"88 80 80 80 10 00", api.ErrValue, 0},           // the number is 2^29
		{"88 80 80 80 80 80 80 80 80 02", api.ErrVar, 0}, // ten bytes, and more than 2^64 - 1
		{"88 80 80 80 80 80 80 80 80 80 00", api.ErrVar, 0},
		{"0b", api.ErrCase, 1}, // the wire types 3, 4, 6 and 7
		{"0c", api.ErrCase, 1},
		{"0e 00", api.ErrCase, 1},
		{"0f 00", api.ErrCase, 1},
		{"8b 80 00", api.ErrCase, 3},
		{"08", api.ErrEnd, 1},
		{"88", api.ErrEnd, 1},
		{"08 80", api.ErrEnd, 2},
		{"08 80 80 80 80 80 80 80 80 80 02", api.ErrVar, 1},
		{"09 01 02 03 04 05 06 07", api.ErrEnd, 8},
		{"0d 01 02 03", api.ErrEnd, 4},
		{"0a", api.ErrEnd, 1},
		{"0a 01", api.ErrEnd, 2},
		{"0a 03 01 02", api.ErrEnd, 4},
		{"0a 80 80 80 80 80 80 80 80 80 02", api.ErrVar, 1},
		{"0a ff ff ff ff ff ff ff ff ff 01 07", api.ErrEnd, 12},
		{"08 01 0a 02 01 02 00", api.ErrValue, 6},
	} {
		if fault := wantRead(t, x, raw(t, w.bytes), sample.Ample()); fault != (api.Fault{Code: w.code, At: w.at}) {
			t.Errorf("%s: %v, want %v at %d", w.bytes, fault, w.code, w.at)
		}
	}
	for a := range 256 {
		for b := range 256 {
			wantRead(t, x, []byte{byte(a), byte(b), 1, 2, 3, 4, 5}, sample.Ample())
		}
	}
}

func TestReadCaps(t *testing.T) {
	x := trial(t)
	b := raw(t, "08 96 01 12 02 61 62") // the whole, two records, of four and of six parts
	enough := api.Caps{Input: 7, Depth: 5, Tokens: 1 + 4 + 6}
	if fault := wantRead(t, x, b, enough); fault != (api.Fault{}) {
		t.Error(fault)
	}
	for _, w := range []struct {
		caps api.Caps
		want api.Fault
	}{
		{api.Caps{Input: 6, Depth: 5, Tokens: 11}, api.Fault{Code: api.ErrInput, At: 6}},
		{api.Caps{Input: 7, Depth: 4, Tokens: 11}, api.Fault{Code: api.ErrDepth, At: 4}},
		{api.Caps{Input: 7, Depth: 5, Tokens: 10}, api.Fault{Code: api.ErrTokens, At: 5}},
		{api.Caps{}, api.Fault{Code: api.ErrDepth}},
	} {
		if fault := wantRead(t, x, b, w.caps); fault != w.want {
			t.Errorf("%+v: %v, want %v", w.caps, fault, w.want)
		}
	}
	for _, caps := range sample.AnyCaps() {
		wantRead(t, x, b, caps)
		wantRead(t, x, nil, caps)
	}
}

func TestReadSamples(t *testing.T) {
	m, x := &sample.Maker{Seed: 28}, trial(t)
	rights := 0
	for range 4000 {
		b := message(fields(m, 6)...)
		if fault := wantRead(t, x, b, sample.Ample()); fault != (api.Fault{}) {
			t.Errorf("%x: %v", b, fault)
		}
		b = m.Garbled(m.Garbled(b))
		if fault := wantRead(t, x, b, sample.Ample()); fault.Code == api.OK {
			rights++
		}
		wantRead(t, x, b, api.Caps{Input: m.UpTo(len(b) + 2), Depth: 5 - m.UpTo(2)*m.UpTo(3), Tokens: m.UpTo(40)})
	}
	if rights < 400 || rights > 3600 {
		t.Errorf("%d are right", rights)
	}
	for _, p := range m.Pairs(proto.Spec(), 500) {
		wantRead(t, x, p.Bytes, m.Caps(p))
	}
}

// What is answered is new memory.
func TestReadAnswersItsOwn(t *testing.T) {
	f := proto.New()
	list := []proto.Field{{Number: 1, Type: 2, Data: []byte{1, 2, 3}}, {Number: 2, Type: 2, Data: []byte{4}}}
	b := message(list...)
	for range 3 {
		got, fault := f.Read(b, sample.Ample())
		if fault != (api.Fault{}) || !same(got, list) {
			t.Fatalf("%v, %v", got, fault)
		}
		other, _ := f.Read(b, sample.Ample())
		first := got[0].Data[:cap(got[0].Data)]
		for i := range first {
			first[i] = 99
		}
		if !bytes.Equal(got[1].Data, []byte{4}) || !same(other, list) || !bytes.Equal(b, message(list...)) {
			t.Errorf("%v, %v, %x", got, other, b)
		}
	}
}

// P28.2

// check: what Check must answer, asked one by one.
func check(x proto.Field) api.Errno {
	if x.Number <= 0 || x.Number >= 1<<29 {
		return api.ErrRange
	}
	if !slices.Contains([]int{0, 1, 2, 5}, x.Type) {
		return api.ErrCase
	}
	number, data := x.Value != 0, len(x.Data) != 0
	if x.Type == 2 && number || x.Type != 2 && data {
		return api.ErrShape
	}
	if x.Type == 5 && x.Value>>32 != 0 {
		return api.ErrValue
	}
	return api.OK
}

// odd: records of all sorts, those that may not be among them.
func odd() []proto.Field {
	var list []proto.Field
	for _, number := range []int{1, 2, 15, 16, proto.MaxNumber, 0, -1, proto.MaxNumber + 1, math.MinInt, math.MaxInt} {
		for _, kind := range []int{0, 1, 2, 5, 3, 4, 6, 7, 8, -1, 10, math.MinInt, math.MaxInt} {
			for _, value := range []uint64{0, 1, math.MaxUint32, math.MaxUint32 + 1, math.MaxUint64} {
				for _, data := range [][]byte{nil, {}, {0}, []byte("some")} {
					list = append(list, proto.Field{Number: number, Type: kind, Value: value, Data: data})
				}
			}
		}
	}
	return list
}

func TestCheck(t *testing.T) {
	told := map[api.Errno]int{}
	for _, x := range odd() {
		e := proto.Check(x)
		if e != check(x) {
			t.Errorf("%+v: %v, want %v", x, e, check(x))
		}
		told[e]++
	}
	for _, e := range []api.Errno{api.OK, api.ErrRange, api.ErrCase, api.ErrShape, api.ErrValue} {
		if told[e] == 0 {
			t.Errorf("%v isn't told", e)
		}
	}
}

// Where several errors apply.
func TestCheckInOrder(t *testing.T) {
	for _, w := range []struct {
		field proto.Field
		want  api.Errno
	}{
		{proto.Field{}, api.ErrRange},
		{proto.Field{Number: 0, Type: 3, Value: 1 << 40, Data: []byte{1}}, api.ErrRange},
		{proto.Field{Number: 1, Type: 3, Value: 1 << 40, Data: []byte{1}}, api.ErrCase},
		{proto.Field{Number: 1, Type: 5, Value: 1 << 40, Data: []byte{1}}, api.ErrShape},
		{proto.Field{Number: 1, Type: 2, Value: 1 << 40, Data: []byte{1}}, api.ErrShape},
		{proto.Field{Number: 1, Type: 5, Value: 1 << 40}, api.ErrValue},
		{proto.Field{Number: 1, Type: 5, Value: 1 << 32}, api.ErrValue},
		{proto.Field{Number: 1, Type: 5, Value: 1<<32 - 1}, api.OK},
		{proto.Field{Number: 1, Type: 1, Value: 1 << 40}, api.OK},
		{proto.Field{Number: 1, Type: 2, Data: []byte{1}}, api.OK},
	} {
		if e := proto.Check(w.field); e != w.want {
			t.Errorf("%+v: %v, want %v", w.field, e, w.want)
		}
	}
}

// wantWrite tells if the bytes of records are other ones than they should be.
func wantWrite(t *testing.T, f *proto.Format, list ...proto.Field) {
	t.Helper()
	want := api.Fault{}
	if at := slices.IndexFunc(list, func(x proto.Field) bool { return check(x) != api.OK }); at >= 0 {
		want = api.Fault{Code: check(list[at]), At: at}
	}
	b, fault := f.Write(list...)
	if fault != want {
		t.Errorf("%v: %v, want %v", list, fault, want)
	}
	if fault.Code != api.OK && len(b) != 0 || fault.Code == api.OK && !bytes.Equal(b, message(list...)) {
		t.Errorf("%v: %x, want %x", list, b, message(list...))
	}
	if fault.Code != api.OK {
		return
	}
	if got, again := f.Read(b, sample.Ample()); again != (api.Fault{}) || !same(got, list) {
		t.Errorf("%x: %v, %v, want %v", b, got, again, list)
	}
}

func TestWrite(t *testing.T) {
	m, f := &sample.Maker{Seed: 82}, proto.New()
	wantWrite(t, f)
	all := odd()
	for _, x := range all {
		wantWrite(t, f, x)
	}
	for range 3000 {
		list := fields(m, 6)
		wantWrite(t, f, list...)
		for range 1 + m.UpTo(2) {
			list = slices.Insert(list, m.UpTo(len(list)+1), all[m.UpTo(len(all))])
		}
		wantWrite(t, f, list...)
	}
}

// Numbers have as few bytes as can be, however long they were where they were read.
func TestWriteShortOnes(t *testing.T) {
	f := proto.New()
	list, fault := f.Read(raw(t, "88 80 00 96 81 00 92 00 82 80 00 61 62"), sample.Ample())
	if fault.Code != api.OK {
		t.Fatal(fault)
	}
	if b, fault := f.Write(list...); fault != (api.Fault{}) || !bytes.Equal(b, raw(t, "08 96 01 12 02 61 62")) {
		t.Errorf("%x, %v", b, fault)
	}
	for bits := range 64 {
		wantWrite(t, f, proto.Field{Number: 1, Value: 1 << bits}, proto.Field{Number: 2, Value: 1<<bits - 1})
	}
}

func TestWriteLongOnes(t *testing.T) {
	f := proto.New()
	data := make([]byte, 1<<24-1-4+1) // a key of one byte, a length of four
	b, fault := f.Write(proto.Field{Number: 1, Type: 2, Data: data[1:]})
	if fault != (api.Fault{}) || len(b) != 1<<24 || !bytes.Equal(b[:5], raw(t, "0a fb ff ff 07")) {
		t.Errorf("%d, %v", len(b), fault)
	}
	b, fault = f.Write(proto.Field{Number: 1, Type: 2, Data: data})
	if fault != (api.Fault{Code: api.ErrLong}) || len(b) != 0 {
		t.Errorf("%d, %v", len(b), fault)
	}
	b, fault = f.Write(proto.Field{Number: 1, Type: 2, Data: data}, proto.Field{Number: 1, Type: 4})
	if fault != (api.Fault{Code: api.ErrCase, At: 1}) || len(b) != 0 { // Check's errors are ahead of it
		t.Errorf("%d, %v", len(b), fault)
	}
}

// P1, P2

// One may be used by several goroutines at the same time: what it needs is made when it is asked first.
func TestManyAtOnce(t *testing.T) {
	f := proto.New()
	list := []proto.Field{{Number: 1, Value: 150}, {Number: 2, Type: 2, Data: []byte("ab")}}
	var group sync.WaitGroup
	for range 12 {
		group.Go(func() {
			b, fault := f.Write(list...)
			got, again := f.Read(message(list...), sample.Ample())
			if fault != (api.Fault{}) || again != fault || !bytes.Equal(b, message(list...)) || !same(got, list) {
				t.Errorf("%x, %v, %v, %v", b, fault, got, again)
			}
		})
	}
	group.Wait()
}

// What a Format was asked before, refused or not, changes nothing.
func TestFormatsAreAlike(t *testing.T) {
	used := proto.New()
	m, all := &sample.Maker{Seed: 5}, odd()
	for range 300 {
		list := append(fields(m, 4), all[m.UpTo(len(all))])
		b := m.Garbled(message(list...))
		caps := api.Caps{Input: 20 + m.UpTo(200), Depth: 5 - m.UpTo(4)/3, Tokens: 5 + m.UpTo(30)}
		got, fault := used.Read(b, caps)
		want, told := proto.New().Read(b, caps)
		out, wrong := used.Write(list...)
		fresh, first := proto.New().Write(list...)
		if fault != told || !same(got, want) || wrong != first || !bytes.Equal(out, fresh) {
			t.Fatalf("%x: %v, %v, %v, %v", b, fault, told, wrong, first)
		}
	}
}

// Lists that are handed in, with their spare room, stay as they are.
func TestArgumentsStay(t *testing.T) {
	room := []byte{1, 2, 3, 4, 5, 6}
	list := append(make([]proto.Field, 0, 8), proto.Field{Number: 1, Type: 2, Data: room[:2]}, proto.Field{Number: 1, Type: 2, Data: room[3:4:5]})
	b, _ := proto.New().Write(list...)
	want := message(list...)
	for _, x := range proto.Find(1, list...) {
		clear(x.Data[:cap(x.Data)])
	}
	last, _ := proto.Last(1, list...)
	clear(last.Data[:cap(last.Data)])
	list[0].Packed()
	if !bytes.Equal(room, []byte{1, 2, 3, 4, 5, 6}) || !bytes.Equal(b, want) {
		t.Errorf("%v, %x", room, b)
	}
	for _, x := range list[2:8] {
		if !alike(x, proto.Field{}) {
			t.Errorf("%+v", x)
		}
	}
	found := proto.Find(1, list...)
	last, _ = proto.Last(1, list...)
	room[0], room[3] = 99, 99
	if !bytes.Equal(b, want) || found[0].Data[0] != 1 || found[1].Data[0] != 4 || last.Data[0] != 4 {
		t.Errorf("%x, %v, %v", b, found, last)
	}
}

func TestExamples(t *testing.T) {
	f := proto.New()
	list := []proto.Field{{Number: 1, Value: 150}, {Number: 2, Type: proto.Bytes, Data: []byte("ab")}}
	want := append([]byte{8, 150, 1, 18, 2}, "ab"...)
	if b, fault := f.Write(list...); fault != (api.Fault{}) || !bytes.Equal(b, want) {
		t.Errorf("%v, %v", b, fault)
	}
	if got, fault := f.Read(want, sample.Ample()); fault != (api.Fault{}) || !same(got, list) {
		t.Errorf("%v, %v", got, fault)
	}
}
