package dfa

import "slices"

// merger makes one state of all that can't be told apart.
type merger struct {
	from    *Auto
	kind    []int // of each state, and of Dead behind them all, what it shares with those that it can't be told apart from
	numbers []int // of each kind its new state; Dead of those that weren't met
	one     []int // of each new state, one that it is made of
}

// Least: the same automaton with as few states as can be, and as few classes: in the order in which they are met from the first state on, byte by byte.
func (a *Auto) Least() *Auto {
	if a == nil {
		return nil
	}
	m := merger{from: a, kind: a.kinds()}
	m.numbers = slices.Repeat([]int{Dead}, len(m.kind))
	m.meet(0)
	var rows [][256]int
	out := &Auto{}
	for s := 0; s < len(m.one); s++ {
		rows = append(rows, m.row(m.one[s]))
		out.Accept = append(out.Accept, a.Ends(m.one[s]))
	}
	out.pack(rows)
	return out
}

// meet: the new state of an old one.
func (m *merger) meet(s int) int {
	number := &m.numbers[m.kind[s]]
	if *number == Dead {
		*number = len(m.one)
		m.one = append(m.one, s)
	}
	return *number
}

// row: the new states behind an old one, by each byte.
func (m *merger) row(s int) [256]int {
	dead := m.kind[m.from.Len()]
	var out [256]int
	for c := range out {
		behind := m.from.on(s, byte(c))
		if m.kind[behind] == dead { // no end can be reached from there
			out[c] = Dead
		} else {
			out[c] = m.meet(behind)
		}
	}
	return out
}

// on: the state behind one, by a byte; Dead has the number behind all states.
func (a *Auto) on(s int, c byte) int {
	if behind := a.Step(s, c); behind != Dead {
		return behind
	}
	return a.Len()
}

// pack: the states behind each by each byte, as classes of bytes, and states by these.
func (a *Auto) pack(rows [][256]int) {
	var firsts []int // the least byte of each class
	for _, row := range rows {
		firsts = a.part(row)
	}
	for _, row := range rows {
		next := make([]int, 0, len(firsts))
		for _, c := range firsts {
			next = append(next, row[c])
		}
		a.Next = append(a.Next, next)
	}
}

// part: classes are parted, where their bytes lead to several states; the least byte of each, which they are numbered by.
func (a *Auto) part(row [256]int) []int {
	var firsts []int
	numbers := map[[2]int]int{}
	for c, behind := range row {
		key := [2]int{int(a.Classes[c]), behind}
		k, ok := numbers[key]
		if !ok {
			k = len(firsts)
			numbers[key] = k
			firsts = append(firsts, c)
		}
		a.Classes[c] = uint8(k)
	}
	return firsts
}
