package png_test

import (
	"slices"
	"testing"

	"guipure/api"
	"guipure/png"
	"guipure/sample"
)

// P27.3

func TestBitsOfTypes(t *testing.T) {
	for _, w := range []struct {
		text                   string
		critical, public, safe bool
	}{
		{"IHDR", true, true, false},
		{"IDAT", true, true, false},
		{"tEXt", false, true, true},
		{"tIME", false, true, false},
		{"prIv", false, false, true},
		{"PrIV", true, false, false},
		{"ABCd", true, true, true},
		{"abcd", false, false, true},
		{"ABcD", true, true, false}, // nothing goes by the third one
		{"@@@@", true, true, false}, // it needn't be letters
		{"    ", false, false, true},
		{"\xdf\xdf\xff\xff", true, true, true},
		{"\x00\xff\x00\x20", true, false, true},
		{"", false, false, false},
		{"I", false, false, false},
		{"IDA", false, false, false},
		{"ABc", false, false, false},
		{"IDATA", false, false, false},
		{"abcde", false, false, false},
		{"ABCde", false, false, false},
		{"éé", true, false, true}, // four bytes: c3 a9 c3 a9
	} {
		for _, data := range [][]byte{nil, []byte("abcd")} {
			c := png.Chunk{Type: w.text, Data: data}
			if c.Critical() != w.critical || c.Public() != w.public || c.Safe() != w.safe {
				t.Errorf("%q: %v, %v, %v", w.text, c.Critical(), c.Public(), c.Safe())
			}
		}
	}
	for i := range 256 {
		bit := i>>5&1 == 1
		x := string([]byte{byte(i)})
		if (png.Chunk{Type: x + "aaa"}).Critical() == bit || (png.Chunk{Type: "a" + x + "aa"}).Public() == bit || (png.Chunk{Type: "AAA" + x}).Safe() != bit {
			t.Errorf("%d", i)
		}
	}
}

// changed: a header, some bytes of which are others.
func changed(at int, b ...byte) png.Chunk {
	c := head()
	copy(c.Data[at:], b)
	return c
}

func TestHead(t *testing.T) {
	for _, w := range []struct {
		chunk png.Chunk
		want  png.Header
	}{
		{head(), png.Header{Width: 1, Height: 1, Depth: 8, Color: 2}},
		{changed(0, 1, 2, 3, 4, 5, 6, 7, 8, 16, 6, 0, 0, 1), png.Header{Width: 0x01020304, Height: 0x05060708, Depth: 16, Color: 6, Interlace: 1}},
		{changed(0, 127, 255, 255, 255, 127, 255, 255, 255, 1, 0), png.Header{Width: 1<<31 - 1, Height: 1<<31 - 1, Depth: 1}},
	} {
		if got, e := png.Head(w.chunk); e != api.OK || got != w.want {
			t.Errorf("%v: %+v, %v, want %+v", w.chunk, got, e, w.want)
		}
		if got, e := png.Head(w.chunk, end(), head()); e != api.OK || got != w.want { // it goes by the first one alone
			t.Errorf("%v: %+v, %v, want %+v", w.chunk, got, e, w.want)
		}
	}
}

// Depths and colors: each pair of bytes.
func TestDepthsAndColors(t *testing.T) {
	together := map[int][]int{0: {1, 2, 4, 8, 16}, 3: {1, 2, 4, 8}, 2: {8, 16}, 4: {8, 16}, 6: {8, 16}}
	many := 0
	for depth := range 256 {
		for color := range 256 {
			h, e := png.Head(changed(8, byte(depth), byte(color)))
			want := api.ErrRange
			if slices.Contains(together[color], depth) {
				want = api.OK
				many++
			}
			if e != want || e == api.OK && (h.Depth != depth || h.Color != color) || e != api.OK && h != (png.Header{}) {
				t.Errorf("depth %d, color %d: %+v, %v, want %v", depth, color, h, e, want)
			}
		}
	}
	if many != 15 {
		t.Errorf("%d go together", many)
	}
}

func TestHeadOfWrongOnes(t *testing.T) {
	long, short := head(), head()
	long.Data = append(long.Data, 0)
	short.Data = short.Data[:12]
	for _, w := range []struct {
		list []png.Chunk
		want api.Errno
	}{
		{nil, api.ErrMissing},
		{[]png.Chunk{end()}, api.ErrMissing},
		{[]png.Chunk{end(), head()}, api.ErrMissing},
		{[]png.Chunk{{Type: "ihdr", Data: head().Data}}, api.ErrMissing},
		{[]png.Chunk{{Type: "IHDR ", Data: head().Data}}, api.ErrMissing},
		{[]png.Chunk{{Type: "", Data: []byte{1}}}, api.ErrMissing}, // ahead of ErrLong
		{[]png.Chunk{{Type: "IHDR"}}, api.ErrLong},
		{[]png.Chunk{long}, api.ErrLong},
		{[]png.Chunk{short}, api.ErrLong},
		{[]png.Chunk{{Type: "IHDR", Data: make([]byte, 12)}}, api.ErrLong}, // ahead of ErrRange
		{[]png.Chunk{{Type: "IHDR", Data: make([]byte, 13)}}, api.ErrRange},
		{[]png.Chunk{changed(0, 0, 0, 0, 0)}, api.ErrRange},
		{[]png.Chunk{changed(0, 128, 0, 0, 0)}, api.ErrRange},
		{[]png.Chunk{changed(0, 255, 255, 255, 255)}, api.ErrRange},
		{[]png.Chunk{changed(4, 0, 0, 0, 0)}, api.ErrRange},
		{[]png.Chunk{changed(4, 128, 0, 0, 0)}, api.ErrRange},
		{[]png.Chunk{changed(8, 4)}, api.ErrRange},
		{[]png.Chunk{changed(10, 1)}, api.ErrRange},
		{[]png.Chunk{changed(11, 1)}, api.ErrRange},
		{[]png.Chunk{changed(12, 2)}, api.ErrRange},
		{[]png.Chunk{changed(12, 255)}, api.ErrRange},
	} {
		if got, e := png.Head(w.list...); e != w.want || got != (png.Header{}) {
			t.Errorf("Head of %v: %+v, %v, want %v", w.list, got, e, w.want)
		}
		if e := png.Whole(w.list...); e != w.want {
			t.Errorf("Whole of %v: %v, want %v", w.list, e, w.want)
		}
	}
}

// listed: chunks by a letter each: a header, a palette, image data, a text, an end, one with a byte, and a wrong header.
func listed(letters string) []png.Chunk {
	var list []png.Chunk
	for _, c := range letters {
		list = append(list, map[rune]png.Chunk{
			'H': head(), 'P': {Type: "PLTE", Data: []byte{1, 2, 3}}, 'D': {Type: "IDAT", Data: []byte{7}}, 'N': {Type: "IDAT"},
			'T': {Type: "tEXt"}, 'E': end(), 'e': {Type: "IEND", Data: []byte{0}}, 'h': {Type: "IHDR"}, 'X': {}, 'i': {Type: "idat"},
		}[c])
	}
	return list
}

func TestWhole(t *testing.T) {
	for _, w := range []struct {
		letters string
		want    api.Errno
	}{
		{"HDE", api.OK},
		{"HNE", api.OK},
		{"HPDDNDTE", api.OK},
		{"HTPTDTTE", api.OK},
		{"HiDiE", api.OK},
		{"HXDXE", api.OK},
		{"", api.ErrMissing},
		{"DE", api.ErrMissing},
		{"E", api.ErrMissing},
		{"hDE", api.ErrLong},
		{"hHD", api.ErrLong}, // Head's error is ahead of all others
		{"H", api.ErrEnd},
		{"HH", api.ErrEnd},
		{"HD", api.ErrEnd},
		{"HDED", api.ErrEnd},
		{"HDe", api.ErrEnd},
		{"HDEe", api.ErrEnd},
		{"HHEDTDT", api.ErrEnd}, // ahead of ErrTwice, and of ErrForm
		{"HHDE", api.ErrTwice},
		{"HDHE", api.ErrTwice},
		{"HDhE", api.ErrTwice},
		{"HDEE", api.ErrTwice},
		{"HEDE", api.ErrTwice},
		{"HDeE", api.ErrTwice},
		{"HHE", api.ErrTwice}, // ahead of ErrForm
		{"HDTDEE", api.ErrTwice},
		{"HE", api.ErrForm},
		{"HPTE", api.ErrForm},
		{"HiE", api.ErrForm},
		{"HDTDE", api.ErrForm},
		{"HDPDDE", api.ErrForm},
		{"HNTNE", api.ErrForm},
		{"HDDTDTDE", api.ErrForm},
	} {
		if e := png.Whole(listed(w.letters)...); e != w.want {
			t.Errorf("%q: %v, want %v", w.letters, e, w.want)
		}
	}
}

// whole: what Whole must answer, told otherwise: by where each type stands.
func whole(list []png.Chunk) api.Errno {
	last := len(list) - 1
	places := map[string][]int{}
	for i, c := range list {
		places[c.Type] = append(places[c.Type], i)
	}
	data := places["IDAT"]
	switch {
	case last < 0 || !slices.Contains(places["IHDR"], 0):
		return api.ErrMissing
	case len(list[0].Data) != 13:
		return api.ErrLong
	case !slices.Contains(places["IEND"], last) || len(list[last].Data) != 0:
		return api.ErrEnd
	case len(places["IHDR"]) > 1 || len(places["IEND"]) > 1:
		return api.ErrTwice
	case len(data) == 0 || data[len(data)-1]-data[0] != len(data)-1:
		return api.ErrForm
	}
	return api.OK
}

func TestWholeSamples(t *testing.T) {
	m := &sample.Maker{Seed: 3}
	told := map[api.Errno]int{}
	for range 20000 {
		letters := ""
		for range m.UpTo(7) {
			letters += string("HPDDNTEehXi"[m.UpTo(11)])
		}
		if m.UpTo(4) != 0 {
			letters = "H" + letters + "E"
		}
		list := listed(letters)
		e := png.Whole(list...)
		if want := whole(list); e != want {
			t.Errorf("%q: %v, want %v", letters, e, want)
		}
		told[e]++
	}
	for _, e := range []api.Errno{api.OK, api.ErrMissing, api.ErrLong, api.ErrEnd, api.ErrTwice, api.ErrForm} {
		if told[e] < 100 {
			t.Errorf("%v: %d times", e, told[e])
		}
	}
}
