// Package sample makes what the tests of several layers try: expressions, specifications, trees and programs of all sorts, bytes of trees, and rows of bytes; and it tries formats.
package sample

import (
	"slices"

	"guipure/api"
	"guipure/class"
)

// letters are the bytes of rows: enough to tell the sets of expressions apart mostly.
const letters = "abc\xff"

// Maker makes expressions, specifications, trees, programs, and numbers that look like chance, as its seed tells.
type Maker struct{ Seed uint32 }

// UpTo: a number from 0 to less than n.
func (m *Maker) UpTo(n int) int {
	m.Seed = m.Seed*1664525 + 1013904223
	return int(m.Seed>>16) % n
}

// Regex: an expression that may be, at most so deep.
func (m *Maker) Regex(deep int) api.Regex {
	kind := m.UpTo(7)
	if deep == 0 {
		kind = m.UpTo(4)
	}
	switch kind {
	case 0:
		return api.Regex{Kind: api.Nothing}
	case 1, 2, 3:
		return api.Regex{Kind: api.One, Set: m.set()}
	case 4:
		low, high := m.UpTo(3), -1
		if m.UpTo(2) == 0 {
			high = low + m.UpTo(3)
		}
		return api.Regex{Kind: api.Repeat, Kids: []api.Regex{m.Regex(deep - 1)}, Min: low, Max: high}
	}
	var kids []api.Regex
	for range 2 + m.UpTo(2) {
		kids = append(kids, m.Regex(deep-1))
	}
	return api.Regex{Kind: api.Cat + m.UpTo(2), Kids: kids}
}

// set: one of few sets, so that expressions have some in common.
func (m *Maker) set() class.Set {
	a, b := class.Of('a'), class.Of('b')
	list := []class.Set{a, b, a.Or(b), class.Of('c'), a.Not(), class.All(), class.Range(0, 200)}
	return list[m.UpTo(len(list))]
}

// Regexes: so many expressions, up to four deep.
func Regexes(many int) []api.Regex {
	m := Maker{Seed: 3}
	var out []api.Regex
	for i := range many {
		out = append(out, m.Regex(i%5))
	}
	return out
}

// Rows: all rows of some bytes, up to so long ones, the shorter ones first.
func Rows(long int) [][]byte {
	out := [][]byte{nil}
	for begin := 0; long > 0; long-- {
		end := len(out)
		for _, row := range out[begin:end] {
			for _, c := range []byte(letters) {
				out = append(out, append(slices.Clone(row), c))
			}
		}
		begin = end
	}
	return out
}
