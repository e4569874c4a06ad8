package size

import (
	"math/bits"

	"guipure/api"
)

// span is how few, and how many of something there may be.
type span struct{ least, most uint64 }

// just: neither fewer, nor more.
func just(many uint64) span { return span{many, many} }

// has: may there be so many?
func (s span) has(many int) bool {
	if many < 0 {
		return false
	}
	n := uint64(many)
	return s.least <= n && (n <= s.most || s.most >= Endless)
}

// plus: both together.
func (s span) plus(t span) span {
	return span{add(s.least, t.least), add(s.most, t.most)}
}

// times: one as often as the other one tells.
func (s span) times(t span) span {
	return span{mul(s.least, t.least), mul(s.most, t.most)}
}

// or: one of both.
func (s span) or(t span) span {
	return span{min(s.least, t.least), max(s.most, t.most)}
}

// add: two numbers together, none of which is above Endless.
func add(a, b uint64) uint64 { return min(a+b, Endless) }

// mul: one as often as the other one.
func mul(a, b uint64) uint64 {
	high, low := bits.Mul64(a, b)
	if high > 0 {
		return Endless
	}
	return min(low, Endless)
}

// counted: how many an expression tells, whatever the number is by which it goes.
func counted(x api.Expr) span {
	out := just(min(x.Add, Endless))
	if x.Reg != "" {
		out.most = Endless
	}
	return out
}
