package parse

import (
	"strings"

	"guipure/api"
	"guipure/octet"
	"guipure/wide"
)

const byteBits = 8

// Word: is a name one that has a meaning of its own?
func Word(name string) bool {
	switch name {
	case "varint", "zigzag", "lenient", "bytes", "times", "many", "within", "switch", "else",
		"oneof", "chain", "last", "empty", "size", "count", "crc":
		return true
	}
	_, _, ok := Fixed(name)
	return ok
}

// Fixed: the width of a number's name, and whether the lowest byte is first; false: it is none.
func Fixed(name string) (int, bool, bool) {
	if name == "u8" {
		return 1, false, true // of one byte none is first
	}
	bits, ok := strings.CutPrefix(name, "u")
	digits, little := strings.CutSuffix(bits, "le")
	if !little {
		var big bool
		digits, big = strings.CutSuffix(bits, "be")
		ok = ok && big
	}
	n, e := wide.Parse(digits)
	if !ok || e != api.OK || !wide.Within(n, 2*byteBits, octet.MaxWidth*byteBits) || n%byteBits != 0 {
		return 0, false, false
	}
	return int(n / byteBits), little, true
}
