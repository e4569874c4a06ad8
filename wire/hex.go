package wire

import (
	"strconv"
	"strings"

	"guipure/api"
)

const (
	base   = 16
	digits = "0123456789abcdef"
	each   = 2   // digits of a byte
	noByte = "_" // how no bytes are told
)

// Hex: bytes as digits to the base 16; a low line of none.
func Hex(b []byte) string {
	if len(b) == 0 {
		return noByte
	}
	out := make([]byte, 0, each*len(b))
	for _, c := range b {
		out = append(out, digits[c/base], digits[c%base])
	}
	return string(out)
}

// Bytes: the bytes of such digits.
func Bytes(s string) ([]byte, api.Errno) {
	switch {
	case s == noByte:
		return nil, api.OK
	case s == "" || len(s)%each != 0:
		return nil, api.ErrForm
	}
	out := make([]byte, len(s)/each)
	for i := range len(s) {
		digit := strings.IndexByte(digits, s[i])
		if digit < 0 {
			return nil, api.ErrForm
		}
		out[i/each] = base*out[i/each] + byte(digit)
	}
	return out, api.OK
}

// Fault: a fault as it is told.
func Fault(f api.Fault) string {
	return "error " + strconv.Itoa(int(f.Code)) + " at " + strconv.Itoa(f.At)
}
