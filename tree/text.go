package tree

import (
	"strings"

	"guipure/api"
	"guipure/wide"
)

// digits are those to the base 16.
const digits = "0123456789abcdef"

// none is a digit that there isn't.
const none = -1

// Text: a tree as a text: its number, behind a low line, if it is blank; behind a colon its bytes; between brackets its parts.
func Text(t api.Tree) string {
	var w strings.Builder
	write(&w, t)
	return w.String()
}

// write: a tree's text is written.
func write(w *strings.Builder, t api.Tree) {
	if t.Blank {
		w.WriteByte('_')
	}
	w.WriteString(wide.Digits(t.Num))
	for i, c := range t.Data {
		if i == 0 {
			w.WriteByte(':')
		}
		w.WriteByte(digits[c/16])
		w.WriteByte(digits[c%16])
	}
	if len(t.Kids) == 0 {
		return
	}
	sign := byte('(')
	for _, kid := range t.Kids {
		w.WriteByte(sign)
		write(w, kid)
		sign = ','
	}
	w.WriteByte(')')
}

// Parse: the tree of a text.
func Parse(s string) (api.Tree, api.Errno) {
	if len(s) > MaxText {
		return api.Tree{}, api.ErrLong
	}
	r := reader{text: s}
	t, e := r.tree(1)
	if e == api.OK && r.at < len(s) {
		e = api.ErrForm
	}
	if e != api.OK {
		return api.Tree{}, e
	}
	return t, api.OK
}

// reader reads a text from the left on, up to the first thing that is wrong.
type reader struct {
	text string
	at   int
}

// next: the next byte; 0, which can't stand anywhere, at the end.
func (r *reader) next() byte {
	if r.at == len(r.text) {
		return 0
	}
	return r.text[r.at]
}

// took: was the next byte this one? Then it is read.
func (r *reader) took(c byte) bool {
	if r.next() != c {
		return false
	}
	r.at++
	return true
}

// decimal: is the next byte a decimal digit?
func (r *reader) decimal() bool { return '0' <= r.next() && r.next() <= '9' }

// tree: a tree that is so deep.
func (r *reader) tree(deep int) (api.Tree, api.Errno) {
	switch {
	case r.next() != '_' && !r.decimal():
		return api.Tree{}, api.ErrForm
	case deep > MaxDeep:
		return api.Tree{}, api.ErrDeep
	}
	t := api.Tree{Blank: r.took('_')}
	var e api.Errno
	if t.Num, e = r.number(); e != api.OK {
		return api.Tree{}, e
	}
	if r.took(':') {
		if t.Data, e = r.data(); e != api.OK {
			return api.Tree{}, e
		}
	}
	if r.took('(') {
		if t.Kids, e = r.parts(deep + 1); e != api.OK {
			return api.Tree{}, e
		}
	}
	return t, api.OK
}

// number: that of all digits that stand next.
func (r *reader) number() (uint64, api.Errno) {
	begin := r.at
	for r.decimal() {
		r.at++
	}
	return wide.Parse(r.text[begin:r.at])
}

// data: bytes, one at least, of two digits each.
func (r *reader) data() ([]byte, api.Errno) {
	var out []byte
	for len(out) == 0 || r.digit() != none {
		var c int
		for range 2 {
			d := r.digit()
			if d == none {
				return nil, api.ErrForm
			}
			c = 16*c + d
			r.at++
		}
		out = append(out, byte(c))
	}
	return out, api.OK
}

// digit: the next digit to the base 16.
func (r *reader) digit() int { return strings.IndexByte(digits, r.next()) }

// parts: those behind a bracket, one at least, that are so deep.
func (r *reader) parts(deep int) ([]api.Tree, api.Errno) {
	var out []api.Tree
	for {
		t, e := r.tree(deep)
		if e != api.OK {
			return nil, e
		}
		out = append(out, t)
		switch {
		case r.took(')'):
			return out, api.OK
		case !r.took(','):
			return nil, api.ErrForm
		}
	}
}
