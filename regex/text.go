package regex

import (
	"strings"

	"guipure/api"
	"guipure/class"
	"guipure/wide"
)

// Text: an expression as it is written; nothing of one that may not be.
func Text(n api.Regex) string {
	if Check(n) != api.OK { // one that holds itself would be written without end
		return ""
	}
	var out strings.Builder
	write(&out, n)
	return out.String()
}

// write: an expression's text behind what was written.
func write(out *strings.Builder, n api.Regex) {
	if n.Kind == api.One {
		out.WriteString(class.Text(n.Set))
	}
	for i, kid := range n.Kids {
		if n.Kind == api.Alt && i > 0 {
			out.WriteByte('|')
		}
		writeKid(out, kid, n.Kind)
	}
	if n.Kind == api.Repeat {
		out.WriteString(often(n.Min, n.Max))
	}
}

// writeKid: likewise of one within another one of some kind.
func writeKid(out *strings.Builder, kid api.Regex, within int) {
	if !closed(kid.Kind, within) {
		write(out, kid)
		return
	}
	out.WriteByte('(')
	write(out, kid)
	out.WriteByte(')')
}

// closed: would one of a kind be read otherwise within one of another kind, if it stood without parentheses?
func closed(kind, within int) bool {
	switch kind {
	case api.Alt:
		return true
	case api.Cat, api.Nothing:
		return within != api.Alt
	}
	return false
}

// often: how many times, as it stands behind what is repeated.
func often(low, high int) string {
	switch {
	case low == 0 && high < 0:
		return "*"
	case low == 1 && high < 0:
		return "+"
	case low == 0 && high == 1:
		return "?"
	case high < 0:
		return "{" + digits(low) + ",}"
	case low == high:
		return "{" + digits(low) + "}"
	}
	return "{" + digits(low) + "," + digits(high) + "}"
}

// digits: a number's digits.
func digits(n int) string { return wide.Digits(uint64(n)) }
