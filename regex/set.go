package regex

import (
	"strings"

	"guipure/api"
	"guipure/class"
)

const (
	// signs don't stand for themselves, but behind a backslash.
	signs     = `/[](){}|*+?^"#-\`
	hexDigits = "0123456789abcdef"
	hexLong   = 3 // an x, and two digits
)

// set: the bytes that what stands next is one of.
func (r *reader) set() (class.Set, bool) {
	if r.took('.') {
		return class.All(), true
	}
	if r.next() == '[' {
		return r.brackets()
	}
	c, ok := r.char()
	return class.Of(c), ok
}

// brackets: likewise, between `[` and `]`.
func (r *reader) brackets() (class.Set, bool) {
	begin := r.at
	r.at++
	others := r.took('^')
	var set class.Set
	for !r.took(']') {
		from, to, ok := r.run()
		if !ok {
			return class.Set{}, false
		}
		if to < from {
			return class.Set{}, r.fail(api.ErrRange, begin)
		}
		set = set.Or(class.Range(from, to))
	}
	if others {
		set = set.Not()
	}
	if e := class.Check(set); e != api.OK {
		return class.Set{}, r.fail(e, begin)
	}
	return set, true
}

// run: a byte, or the first and the last one of some.
func (r *reader) run() (byte, byte, bool) {
	from, ok := r.char()
	if !ok || !r.took('-') {
		return from, from, ok
	}
	to, ok := r.char()
	return from, to, ok
}

// char: the byte that stands next.
func (r *reader) char() (byte, bool) {
	c := r.next()
	if c == '\\' {
		return r.escaped()
	}
	if c < ' ' || c > '~' || strings.IndexByte(signs, c) >= 0 {
		return 0, r.fail(api.ErrForm, r.at)
	}
	r.at++
	return c, true
}

// escaped: likewise, with a backslash ahead of it.
func (r *reader) escaped() (byte, bool) {
	c, long := unescaped(r.text[r.at+1:])
	if long == 0 {
		return 0, r.fail(api.ErrForm, r.at)
	}
	r.at += 1 + long
	return c, true
}

// unescaped: the byte that the front of a text stands for behind a backslash, and how long that front is; 0: it stands for none.
func unescaped(rest string) (byte, int) {
	if rest == "" {
		return 0, 0
	}
	switch c := rest[0]; c {
	case 'n':
		return '\n', 1
	case 'r':
		return '\r', 1
	case 't':
		return '\t', 1
	case '0':
		return 0, 1
	case 'x':
		return hex(rest)
	default:
		if c <= ' ' || c > '~' || alphanumeric(c) {
			return 0, 0
		}
		return c, 1
	}
}

// hex: likewise of one that begins with an x.
func hex(rest string) (byte, int) {
	if len(rest) < hexLong {
		return 0, 0
	}
	high, low := strings.IndexByte(hexDigits, rest[1]), strings.IndexByte(hexDigits, rest[2])
	if high < 0 || low < 0 {
		return 0, 0
	}
	return byte(high<<4 | low), hexLong
}

// alphanumeric: is a byte a digit or a letter?
func alphanumeric(c byte) bool {
	return '0' <= c && c <= '9' || 'a' <= c && c <= 'z' || 'A' <= c && c <= 'Z'
}
