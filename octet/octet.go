// Package octet reads and writes bytes, one behind the other, and numbers of so many bytes.
package octet

import "guipure/api"

// MaxWidth is how many bytes a number has at most.
const MaxWidth = 8

// Reader reads bytes, one behind the other. A copy of it reads on by itself.
type Reader struct {
	data []byte // the caller's
	at   int    // how many were read
}

// New: a reader at the beginning of bytes.
func New(data []byte) *Reader { return &Reader{data: data} }

// At: how many bytes were read.
func (r *Reader) At() int { return r.at }

// Left: how many bytes are left.
func (r *Reader) Left() int { return len(r.data) - r.at }

// Peek: the next byte; false: there is none.
func (r *Reader) Peek() (byte, bool) {
	if r.Left() == 0 {
		return 0, false
	}
	return r.data[r.at], true
}

// Byte: the next byte, which is read.
func (r *Reader) Byte() (byte, api.Errno) {
	c, ok := r.Peek()
	if !ok {
		return 0, api.ErrEnd
	}
	r.at++
	return c, api.OK
}

// next: the next so many bytes, which are read. They are the caller's own, so they mayn't be answered.
func (r *Reader) next(n int) ([]byte, api.Errno) {
	if n < 0 {
		return nil, api.ErrRange
	}
	if n > r.Left() {
		return nil, api.ErrEnd
	}
	b := r.data[r.at : r.at+n]
	r.at += n
	return b, api.OK
}

// Take: the next so many bytes, which are read; a copy.
func (r *Reader) Take(n int) ([]byte, api.Errno) {
	b, e := r.next(n)
	if e != api.OK {
		return nil, e
	}
	out := make([]byte, len(b))
	copy(out, b)
	return out, api.OK
}

// Skip: so many bytes are read.
func (r *Reader) Skip(n int) api.Errno {
	_, e := r.next(n)
	return e
}

// Number: the number of so many bytes, which are read; the lowest byte first, or last.
func (r *Reader) Number(width int, little bool) (uint64, api.Errno) {
	if !Width(width) {
		return 0, api.ErrRange
	}
	b, e := r.next(width)
	if e != api.OK {
		return 0, e
	}
	return Of(b, little), api.OK
}

// Width: may a number have so many bytes?
func Width(n int) bool { return 1 <= n && n <= MaxWidth }

// Most: the greatest number of so many bytes; 0: there is no such width.
func Most(width int) uint64 {
	if !Width(width) {
		return 0
	}
	// Of eight bytes the shift leaves 0, and 0 less 1 is the greatest number there is.
	return uint64(1)<<(8*width) - 1
}

// Of: the number of at most eight bytes; of more that of the first eight.
func Of(b []byte, little bool) uint64 {
	var n uint64
	for i := range min(len(b), MaxWidth) {
		if little {
			n |= uint64(b[i]) << (8 * i)
		} else {
			n = n<<8 | uint64(b[i])
		}
	}
	return n
}

// Put: bytes, and behind them a number of so many.
func Put(to []byte, n uint64, width int, little bool) ([]byte, api.Errno) {
	if !Width(width) {
		return nil, api.ErrRange
	}
	if n > Most(width) {
		return nil, api.ErrOver
	}
	out := make([]byte, len(to)+width)
	copy(out, to)
	for i := range width {
		place := len(out) - 1 - i
		if little {
			place = len(to) + i
		}
		out[place] = byte(n >> (8 * i))
	}
	return out, api.OK
}

// Writer writes bytes, one behind the other, up to a most.
type Writer struct {
	data []byte
	most int
}

// Write: a writer of at most so many bytes.
func Write(most int) *Writer { return &Writer{most: max(most, 0)} }

// Add: bytes more.
func (w *Writer) Add(b ...byte) api.Errno {
	if len(b) > w.most-len(w.data) {
		return api.ErrLong
	}
	w.data = append(w.data, b...)
	return api.OK
}

// Number: a number of so many bytes more.
func (w *Writer) Number(n uint64, width int, little bool) api.Errno {
	b, e := Put(nil, n, width, little)
	if e != api.OK {
		return e
	}
	return w.Add(b...)
}

// Set: bytes that were written are other ones, from a place on.
func (w *Writer) Set(at int, b ...byte) api.Errno {
	if at < 0 || at > len(w.data) || len(b) > len(w.data)-at {
		return api.ErrRange
	}
	copy(w.data[at:], b)
	return api.OK
}

// Len: how many bytes were written.
func (w *Writer) Len() int { return len(w.data) }

// Bytes: those that were written; a copy.
func (w *Writer) Bytes() []byte {
	out := make([]byte, len(w.data))
	copy(out, w.data)
	return out
}
