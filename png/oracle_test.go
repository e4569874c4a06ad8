package png_test

import (
	"bytes"
	"encoding/binary"
	"hash/crc32"
	"image"
	"image/color"
	lib "image/png"
	"slices"
	"testing"

	"guipure/png"
	"guipure/sample"
)

// begin: the signature, and chunks behind it.
func begin(list ...[]byte) []byte {
	return slices.Concat(append([][]byte{{137, 80, 78, 71, 13, 10, 26, 10}}, list...)...)
}

// piece: a chunk's bytes.
func piece(c png.Chunk) []byte {
	out := binary.BigEndian.AppendUint32(nil, uint32(len(c.Data)))
	out = append(append(out, c.Type...), c.Data...)
	return binary.BigEndian.AppendUint32(out, crc32.ChecksumIEEE(out[4:]))
}

// file: the bytes of chunks.
func file(list ...png.Chunk) []byte {
	all := begin()
	for _, c := range list {
		all = append(all, piece(c)...)
	}
	return all
}

// letters: are bytes four letters?
func letters(b []byte) bool {
	ok := len(b) == 4
	for _, c := range b {
		ok = ok && ('A' <= c && c <= 'Z' || 'a' <= c && c <= 'z')
	}
	return ok
}

// cut: the chunks that bytes are; false: they are none.
func cut(b []byte) ([]png.Chunk, bool) {
	rest, ok := bytes.CutPrefix(b, begin())
	if !ok {
		return nil, false
	}
	var list []png.Chunk
	for len(rest) > 0 {
		if len(rest) < 12 {
			return nil, false
		}
		size := uint64(binary.BigEndian.Uint32(rest))
		if size >= 1<<31 || uint64(len(rest)) < size+12 {
			return nil, false
		}
		told, sum := rest[4:8+size], rest[8+size:]
		if !letters(told[:4]) || crc32.ChecksumIEEE(told) != binary.BigEndian.Uint32(sum) {
			return nil, false
		}
		list = append(list, png.Chunk{Type: string(told[:4]), Data: told[4:]})
		rest = sum[4:]
	}
	return list, true
}

// same: are they the same chunks?
func same(a, b []png.Chunk) bool {
	return slices.EqualFunc(a, b, func(x, y png.Chunk) bool { return x.Type == y.Type && bytes.Equal(x.Data, y.Data) })
}

// chunks: some, up to so many.
func chunks(m *sample.Maker, many int) []png.Chunk {
	types := []string{"IHDR", "IDAT", "IEND", "tEXt", "AZaz", "zzzz", "PLTE", "AAAA"}
	var list []png.Chunk
	for range m.UpTo(many + 1) {
		c := png.Chunk{Type: types[m.UpTo(len(types))]}
		for range m.UpTo(20) * m.UpTo(2) {
			c.Data = append(c.Data, byte(m.UpTo(256)))
		}
		list = append(list, c)
	}
	return list
}

// picture: a real file, as Go's own library writes it.
func picture(t *testing.T, wide, high int) []byte {
	t.Helper()
	p := image.NewNRGBA(image.Rect(0, 0, wide, high))
	for i := range wide * high {
		p.SetNRGBA(i%wide, i/wide, color.NRGBA{R: uint8(i * 7), G: uint8(i * i), B: uint8(i), A: 200})
	}
	var out bytes.Buffer
	if err := lib.Encode(&out, p); err != nil {
		t.Fatal(err)
	}
	return out.Bytes()
}
