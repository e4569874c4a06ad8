package dfa

import (
	"math/bits"

	"guipure/nfa"
)

const wordBits = 64

// set is states of an automaton that may be in several ones at once: the bit of each.
type set [nfa.MaxStates / wordBits]uint64

// setOf: the set of some states.
func setOf(list []int) set {
	var out set
	for _, s := range list {
		out[s/wordBits] |= 1 << (s % wordBits)
	}
	return out
}

// join: the states of another one are put to a set.
func (s *set) join(other *set) {
	for i, word := range other {
		s[i] |= word
	}
}

// list: its states, rising.
func (s *set) list() []int {
	var out []int
	for i, word := range s {
		for ; word != 0; word &= word - 1 {
			out = append(out, i*wordBits+bits.TrailingZeros64(word))
		}
	}
	return out
}
