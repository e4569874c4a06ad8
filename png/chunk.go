package png

import (
	"math"
	"slices"

	"guipure/api"
	"guipure/octet"
)

// The types of chunks that each file has.
const (
	header = "IHDR"
	image  = "IDAT"
	end    = "IEND"
)

const (
	typeSize   = 4
	headerSize = 13
	mark       = 1 << 5 // of a type's byte: it is a small letter
)

// Chunk is a chunk: its type, and its bytes.
type Chunk struct {
	Type string
	Data []byte
}

// Header is what the first chunk tells.
type Header struct {
	Width, Height uint32
	Depth, Color  int
	Interlace     int
}

// marked: has the type four bytes, and has one of them the mark, if it is wanted, or hasn't it, if it isn't?
func (c Chunk) marked(at int, wanted bool) bool {
	return len(c.Type) == typeSize && (c.Type[at]&mark != 0) == wanted
}

// Critical: must it be known by whoever reads the file?
func (c Chunk) Critical() bool { return c.marked(0, false) }

// Public: is it one of the standard's?
func (c Chunk) Public() bool { return c.marked(1, false) }

// Safe: may it be copied though it isn't known?
func (c Chunk) Safe() bool { return c.marked(3, true) }

// Head: what the first chunk of some tells.
func Head(list ...Chunk) (Header, api.Errno) {
	switch {
	case len(list) == 0 || list[0].Type != header:
		return Header{}, api.ErrMissing
	case len(list[0].Data) != headerSize:
		return Header{}, api.ErrLong
	}
	b := list[0].Data
	h := Header{
		Width:     uint32(octet.Of(b[:4], false)),
		Height:    uint32(octet.Of(b[4:8], false)),
		Depth:     int(b[8]),
		Color:     int(b[9]),
		Interlace: int(b[12]),
	}
	compression, filter := b[10], b[11]
	if !h.may() || compression != 0 || filter != 0 {
		return Header{}, api.ErrRange
	}
	return h, api.OK
}

// may: may a header tell so?
func (h Header) may() bool {
	return side(h.Width) && side(h.Height) && slices.Contains(depths(h.Color), h.Depth) && h.Interlace <= 1
}

// side: may a picture be so wide, or so high?
func side(n uint32) bool { return n >= 1 && n <= math.MaxInt32 }

// depths: those that go together with a color type.
func depths(color int) []int {
	switch color {
	case 0:
		return []int{1, 2, 4, 8, 16}
	case 3:
		return []int{1, 2, 4, 8}
	case 2, 4, 6:
		return []int{8, 16}
	}
	return nil
}

// Whole: do some chunks begin with the header, end with the end, and have image data beside each other between?
func Whole(list ...Chunk) api.Errno {
	if _, e := Head(list...); e != api.OK {
		return e
	}
	last := len(list) - 1
	if list[last].Type != end || len(list[last].Data) != 0 {
		return api.ErrEnd
	}
	between := list[1:last] // a header that is the last one, too, isn't an end
	if slices.ContainsFunc(between, func(c Chunk) bool { return c.Type == header || c.Type == end }) {
		return api.ErrTwice
	}
	if !together(between) {
		return api.ErrForm
	}
	return api.OK
}

// together: is there image data, and is it all beside each other?
func together(list []Chunk) bool {
	runs := 0
	for i, c := range list {
		if c.Type == image && (i == 0 || list[i-1].Type != image) {
			runs++
		}
	}
	return runs == 1
}
