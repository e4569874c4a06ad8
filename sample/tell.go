package sample

import (
	"strconv"
	"strings"

	"guipure/api"
)

const digits = "0123456789abcdef"

// hex: bytes as digits to the base 16.
func hex(b []byte) string {
	var w strings.Builder
	for _, c := range b {
		w.WriteByte(digits[c/16])
		w.WriteByte(digits[c%16])
	}
	return w.String()
}

// capsText: caps as a text.
func capsText(c api.Caps) string {
	return "{Input:" + strconv.Itoa(c.Input) + " Depth:" + strconv.Itoa(c.Depth) + " Tokens:" + strconv.Itoa(c.Tokens) + "}"
}

// asked: what was read, and under which caps.
func asked(b []byte, c api.Caps) string { return hex(b) + ", " + capsText(c) + ": " }

// faultText: a fault as a text.
func faultText(f api.Fault) string {
	return "{" + f.Code.Error() + " " + strconv.Itoa(f.At) + "}"
}
