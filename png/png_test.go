package png_test

import (
	"bytes"
	"fmt"
	lib "image/png"
	"math"
	"reflect"
	"slices"
	"strings"
	"sync"
	"testing"

	"guipure/api"
	"guipure/emit"
	"guipure/lower"
	"guipure/png"
	"guipure/sample"
	"guipure/tree"
)

// head is the header of a picture of one point; 45 bytes with the end.
func head() png.Chunk {
	return png.Chunk{Type: "IHDR", Data: []byte{0, 0, 0, 1, 0, 0, 0, 1, 8, 2, 0, 0, 0}}
}

// end is the last chunk.
func end() png.Chunk { return png.Chunk{Type: "IEND"} }

// trial: how reading is tried.
func trial(t *testing.T) sample.Format[[]png.Chunk] {
	t.Helper()
	r, f := lower.Make(png.Spec())
	if f.Code != api.OK {
		t.Fatal(f)
	}
	return sample.Format[[]png.Chunk]{Read: png.New().Read, Program: r, Cut: cut, Same: same, Text: text}
}

// text: chunks as a text.
func text(list []png.Chunk) string { return fmt.Sprint(list) }

// wantRead tells what is wrong with what is read of bytes.
func wantRead(t *testing.T, x sample.Format[[]png.Chunk], b []byte, caps api.Caps) api.Fault {
	t.Helper()
	f, wrong := x.Try(b, caps)
	if wrong != "" {
		t.Error(wrong)
	}
	return f
}

// P27.1

func TestText(t *testing.T) {
	if wrong := sample.Source(png.Text, png.Spec); wrong != "" {
		t.Error(wrong)
	}
}

func TestSignature(t *testing.T) {
	for range 2 {
		b := png.Signature()
		if !bytes.Equal(b, []byte{137, 80, 78, 71, 13, 10, 26, 10}) {
			t.Errorf("%v", b)
		}
		clear(b[:cap(b)])
	}
}

func TestReadRightOnes(t *testing.T) {
	x := trial(t)
	for _, list := range [][]png.Chunk{
		nil,
		{end()},
		{head(), end()},
		{{Type: "AZaz"}, {Type: "zaZA", Data: []byte{0}}, {Type: "AZaz", Data: []byte("IEND")}},
		{{Type: "data", Data: make([]byte, 70000)}},
		{{Type: "IEND", Data: begin()}, head(), head()},
	} {
		if fault := wantRead(t, x, file(list...), sample.Ample()); fault != (api.Fault{}) {
			t.Errorf("%v: %v", list, fault)
		}
		if got, fault := x.Read(file(list...), sample.Ample()); fault != (api.Fault{}) || !same(got, list) {
			t.Errorf("%v: %v, %v", list, got, fault)
		}
	}
}

func TestReadWrongOnes(t *testing.T) {
	x := trial(t)
	right := file(head(), end())
	spoilt := func(at int, c byte) []byte {
		b := slices.Clone(right)
		b[at] = c
		return b
	}
	for _, w := range []struct {
		bytes []byte
		code  api.Errno
		at    int
	}{
		{nil, api.ErrEnd, 0},
		{right[:5], api.ErrEnd, 5},
		{[]byte("GIF89a"), api.ErrToken, 0},
		{spoilt(0, 136), api.ErrToken, 0},
		{spoilt(4, 10), api.ErrToken, 4},
		{spoilt(7, 0), api.ErrToken, 7},
		{begin([]byte{0}), api.ErrEnd, 9},
		{begin([]byte{127, 255, 255, 255}, []byte("IHDR")), api.ErrEnd, 16}, // the greatest length
		{begin([]byte{128, 0, 0, 0}, []byte("IHDR")), api.ErrValue, 8},
		{begin([]byte{255, 255, 255, 255}), api.ErrValue, 8},
		{begin([]byte{13, 0, 0, 0}, right[12:]), api.ErrEnd, 45}, // the lowest byte first
		{spoilt(12, '@'), api.ErrToken, 12},
		{spoilt(12, '['), api.ErrToken, 12},
		{spoilt(13, '`'), api.ErrToken, 13},
		{spoilt(14, '{'), api.ErrToken, 14},
		{spoilt(15, '1'), api.ErrToken, 15},
		{spoilt(15, 'D'|128), api.ErrToken, 15},
		{spoilt(15, 'r'), api.ErrSum, 29}, // a type that may be, but of another checksum
		{spoilt(16, 1), api.ErrSum, 29},
		{spoilt(28, 1), api.ErrSum, 29},
		{spoilt(29, right[29]+1), api.ErrSum, 29},
		{spoilt(32, right[32]+1), api.ErrSum, 29},
		{spoilt(44, right[44]+1), api.ErrSum, 41},
		{spoilt(11, 12), api.ErrSum, 28}, // a byte less
		{right[:44], api.ErrEnd, 44},
		{right[:8+11], api.ErrEnd, 19},
		{append(slices.Clone(right), 0), api.ErrEnd, 46},
		{append(slices.Clone(right), right...), api.ErrValue, 45}, // a signature is no chunk
	} {
		if fault := wantRead(t, x, w.bytes, sample.Ample()); fault != (api.Fault{Code: w.code, At: w.at}) {
			t.Errorf("%x: %v, want %v at %d", w.bytes, fault, w.code, w.at)
		}
	}
	for c := range 256 { // of a type's letters: all right but by their checksum
		for at := 12; at < 16; at++ {
			wantRead(t, x, spoilt(at, byte(c)), sample.Ample())
			list := []png.Chunk{{Type: string(spoilt(at, byte(c))[12:16])}}
			wantRead(t, x, file(list...), sample.Ample())
		}
	}
	for long := range len(right) {
		wantRead(t, x, right[:long], sample.Ample())
	}
}

func TestReadCaps(t *testing.T) {
	x := trial(t)
	b := file(head(), end()) // the whole, its two parts, and two chunks with their four
	enough := api.Caps{Input: len(b), Depth: 4, Tokens: 3 + 2*5}
	if fault := wantRead(t, x, b, enough); fault != (api.Fault{}) {
		t.Error(fault)
	}
	for _, w := range []struct {
		caps api.Caps
		want api.Fault
	}{
		{api.Caps{Input: 44, Depth: 4, Tokens: 13}, api.Fault{Code: api.ErrInput, At: 44}},
		{api.Caps{Input: 45, Depth: 3, Tokens: 13}, api.Fault{Code: api.ErrDepth, At: 8}},
		{api.Caps{Input: 45, Depth: 4, Tokens: 12}, api.Fault{Code: api.ErrTokens, At: 41}},
		{api.Caps{}, api.Fault{Code: api.ErrDepth}},
	} {
		if fault := wantRead(t, x, b, w.caps); fault != w.want {
			t.Errorf("%+v: %v, want %v", w.caps, fault, w.want)
		}
	}
	for _, caps := range sample.AnyCaps() {
		wantRead(t, x, b, caps)
		wantRead(t, x, nil, caps)
	}
}

func TestReadSamples(t *testing.T) {
	m, x := &sample.Maker{Seed: 27}, trial(t)
	rights := 0
	for range 3000 {
		list := chunks(m, 6)
		b := file(list...)
		p := sample.Pair{Bytes: b, Tree: png.Tree(list...)}
		wantRead(t, x, b, m.Caps(p))
		wantRead(t, x, m.Garbled(b), m.Caps(p))
		if len(list) == 0 {
			continue
		}
		list[m.UpTo(len(list))].Type = string(m.Garbled([]byte("IDAT"))) // of a right checksum
		if fault := wantRead(t, x, file(list...), sample.Ample()); fault.Code == api.OK {
			rights++
		}
	}
	if rights < 300 || rights > 2500 {
		t.Errorf("%d are right", rights)
	}
}

// Files that another program wrote.
func TestPictures(t *testing.T) {
	x := trial(t)
	for _, side := range []int{1, 5, 300} {
		b := picture(t, side, side+1)
		if fault := wantRead(t, x, b, sample.Ample()); fault != (api.Fault{}) {
			t.Fatal(fault)
		}
		list, _ := x.Read(b, sample.Ample())
		h, e := png.Head(list...)
		if e != api.OK || h != (png.Header{Width: uint32(side), Height: uint32(side) + 1, Depth: 8, Color: 6}) {
			t.Errorf("%+v, %v", h, e)
		}
		if e := png.Whole(list...); e != api.OK {
			t.Error(e)
		}
		list = slices.Insert(list, 1, png.Chunk{Type: "prIv", Data: []byte("some")})
		more, fault := png.New().Write(list...)
		if fault != (api.Fault{}) || len(more) != len(b)+16 {
			t.Errorf("%d bytes of %d, %v", len(more), len(b), fault)
		}
		was, err := lib.Decode(bytes.NewReader(b))
		is, again := lib.Decode(bytes.NewReader(more))
		if err != nil || again != nil || !reflect.DeepEqual(was, is) {
			t.Errorf("%v, %v", err, again)
		}
	}
}

// What is answered is new memory.
func TestReadAnswersItsOwn(t *testing.T) {
	f := png.New()
	list := []png.Chunk{{Type: "data", Data: []byte{1, 2, 3}}, {Type: "more", Data: []byte{4}}}
	b := file(list...)
	for range 3 {
		got, fault := f.Read(b, sample.Ample())
		if fault != (api.Fault{}) || !same(got, list) {
			t.Fatalf("%v, %v", got, fault)
		}
		other, _ := f.Read(b, sample.Ample())
		first := got[0].Data
		for i := range first[:cap(first)] {
			first[:cap(first)][i] = 99
		}
		if !bytes.Equal(got[1].Data, []byte{4}) || !same(other, list) || !bytes.Equal(b, file(list...)) {
			t.Errorf("%v, %v, %x", got, other, b)
		}
	}
}

// P27.2

func TestTree(t *testing.T) {
	for _, w := range []struct {
		list []png.Chunk
		want string
	}{
		{nil, "0(0:89504e470d0a1a0a,0)"},
		{[]png.Chunk{end()}, "0(0:89504e470d0a1a0a,0(0(_0,0:49454e44,0,_0)))"},
		{[]png.Chunk{{Type: "a", Data: []byte{7, 8}}, {}}, "0(0:89504e470d0a1a0a,0(0(_0,0:61,0:0708,_0),0(_0,0,0,_0)))"},
	} {
		if got := tree.Text(png.Tree(w.list...)); got != w.want {
			t.Errorf("%v: %s, want %s", w.list, got, w.want)
		}
	}
	list := []png.Chunk{head(), head(), end()}
	for range 2 { // it shares nothing
		x, y := png.Tree(list...), png.Tree(list...)
		sample.Spoil(x)
		if !tree.Same(y, png.Tree(head(), head(), end())) || !same(list, []png.Chunk{head(), head(), end()}) {
			t.Errorf("%s, %v", tree.Text(y), list)
		}
		list[0].Data[0] = 9
		if !tree.Same(y, png.Tree(head(), head(), end())) {
			t.Errorf("%s", tree.Text(y))
		}
		list[0] = head()
	}
}

// wantWrite tells if what is written isn't layer 24's.
func wantWrite(t *testing.T, f *png.Format, w *emit.Writer, list []png.Chunk) api.Fault {
	t.Helper()
	b, fault := f.Write(list...)
	want, _, told := w.Write(png.Tree(list...), 1<<24)
	if fault != told || !bytes.Equal(b, want) {
		t.Errorf("%v: %x, %v, want %x, %v", list, b, fault, want, told)
	}
	if fault.Code == api.OK && !bytes.Equal(b, file(list...)) {
		t.Errorf("%v: %x, want %x", list, b, file(list...))
	}
	return fault
}

// writer: layer 24's.
func writer(t *testing.T) *emit.Writer {
	t.Helper()
	w, f := emit.New(png.Spec())
	if f.Code != api.OK {
		t.Fatal(f)
	}
	return w
}

func TestWrite(t *testing.T) {
	m, f, w, x := &sample.Maker{Seed: 72}, png.New(), writer(t), trial(t)
	for range 1000 {
		list := chunks(m, 5)
		if fault := wantWrite(t, f, w, list); fault != (api.Fault{}) {
			t.Errorf("%v: %v", list, fault)
		}
		b, _ := f.Write(list...)
		if got, fault := f.Read(b, sample.Ample()); fault != (api.Fault{}) || !same(got, list) {
			t.Errorf("%v: %v, %v", list, got, fault)
		}
		wantRead(t, x, b, sample.Ample())
		if len(list) > 0 {
			list[m.UpTo(len(list))].Type = string(m.Garbled([]byte("IDAT")))
			wantWrite(t, f, w, list)
		}
	}
}

func TestWriteWrongTypes(t *testing.T) {
	f, w := png.New(), writer(t)
	for _, text := range []string{"", "IDA", "IDATA", "IDA1", "ID T", "@DAT", "[DAT", "`DAT", "{DAT", "IDA\xc1", "ééé", "IDAT\n", strings.Repeat("I", 1000)} {
		bad := png.Chunk{Type: text, Data: []byte{1}}
		for which, list := range [][]png.Chunk{{bad, bad}, {head(), bad, end()}, {end(), end(), bad}} {
			at := 3 + 5*which + 2 // the whole, its two parts, the chunks ahead, the chunk and its length
			if fault := wantWrite(t, f, w, list); fault != (api.Fault{Code: api.ErrToken, At: at}) {
				t.Errorf("%q: %v, want ErrToken at %d", text, fault, at)
			}
		}
	}
}

func TestWriteLongOnes(t *testing.T) {
	f := png.New()
	data := make([]byte, 1<<24-8-12+1)
	b, fault := f.Write(png.Chunk{Type: "IDAT", Data: data[1:]})
	if fault != (api.Fault{}) || len(b) != 1<<24 || !bytes.Equal(b, file(png.Chunk{Type: "IDAT", Data: data[1:]})) {
		t.Errorf("%d, %v", len(b), fault)
	}
	b, fault = f.Write(png.Chunk{Type: "IDAT", Data: data})
	if fault != (api.Fault{Code: api.ErrLong}) || len(b) != 0 {
		t.Errorf("%d, %v", len(b), fault)
	}
	b, fault = f.Write(png.Chunk{Type: "IDAT", Data: data}, png.Chunk{Type: "IDA1"})
	if fault.Code != api.ErrToken || len(b) != 0 { // what it isn't is told ahead of how long it is
		t.Errorf("%d, %v", len(b), fault)
	}
}

// P1, P2

// One may be used by several goroutines at the same time: what it needs is made when it is asked first.
func TestManyAtOnce(t *testing.T) {
	f := png.New()
	list := []png.Chunk{head(), {Type: "IDAT", Data: []byte{1, 2, 3}}, end()}
	var group sync.WaitGroup
	for range 12 {
		group.Go(func() {
			b, fault := f.Write(list...)
			got, again := f.Read(file(list...), sample.Ample())
			if fault != (api.Fault{}) || again != fault || !bytes.Equal(b, file(list...)) || !same(got, list) {
				t.Errorf("%x, %v, %v, %v", b, fault, got, again)
			}
		})
	}
	group.Wait()
}

// What a Format was asked before, refused or not, changes nothing.
func TestFormatsAreAlike(t *testing.T) {
	used := png.New()
	m := &sample.Maker{Seed: 5}
	for range 200 {
		list := chunks(m, 4)
		if len(list) > 0 && m.UpTo(3) == 0 {
			list[0].Type = "?"
		}
		b := m.Garbled(file(list...))
		caps := m.Caps(sample.Pair{Bytes: b, Tree: png.Tree(list...)})
		got, fault := used.Read(b, caps)
		want, told := png.New().Read(b, caps)
		out, wrong := used.Write(list...)
		fresh, first := png.New().Write(list...)
		if fault != told || !same(got, want) || wrong != first || !bytes.Equal(out, fresh) {
			t.Fatalf("%x: %v, %v, %v, %v", b, fault, told, wrong, first)
		}
	}
}

// Lists that are handed in, with their spare room, stay as they are.
func TestWriteChangesNothing(t *testing.T) {
	room := []byte{1, 2, 3, 4, 5, 6}
	list := append(make([]png.Chunk, 0, 8), png.Chunk{Type: "data", Data: room[:2]}, png.Chunk{Type: "more", Data: room[3:4:5]})
	b, _ := png.New().Write(list...)
	want := file(list...)
	png.Head(list...)
	png.Whole(list...)
	clear(png.Tree(list...).Kids[1].Kids[0].Kids[2].Data)
	if !bytes.Equal(room, []byte{1, 2, 3, 4, 5, 6}) || !bytes.Equal(b, want) {
		t.Errorf("%v, %x", room, b)
	}
	if rest := list[2:8]; slices.ContainsFunc(rest, func(c png.Chunk) bool { return c.Type != "" || c.Data != nil }) {
		t.Errorf("%v", rest)
	}
	room[0] = 99
	if !bytes.Equal(b, want) {
		t.Errorf("%x", b)
	}
}

func TestRawArguments(t *testing.T) {
	f, w := png.New(), writer(t)
	texts := []string{"", "I", "IHDR", "\x00\xff\x80", "IEND", "IDAT", "iend", strings.Repeat("x", 9999)}
	for _, a := range texts {
		for _, b := range texts {
			list := []png.Chunk{{Type: a, Data: []byte(b)}, {Type: b, Data: []byte(a)}}
			wantWrite(t, f, w, list)
			png.Head(list...)
			png.Whole(list...)
			list[0].Critical()
			list[0].Public()
			list[0].Safe()
		}
	}
	f.Read(nil, api.Caps{Input: math.MinInt, Depth: math.MaxInt, Tokens: math.MinInt})
}

func TestExamples(t *testing.T) {
	b, f := png.New().Write(head(), end())
	if f != (api.Fault{}) || len(b) != 45 {
		t.Errorf("%d bytes, %v", len(b), f)
	}
	if e := png.Whole(head(), end()); e == api.OK {
		t.Error("they are a whole file")
	}
}
