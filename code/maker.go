package code

import (
	"slices"

	"guipure/api"
)

// Maker puts a program together: steps, and places that are told later.
type Maker struct {
	made Program
	over bool // there was a step more than there may be
}

// Add: a step more; its number.
func (m *Maker) Add(s Step) int {
	at := m.Here()
	if at == MaxSteps {
		m.over = true
		return 0
	}
	s.Ways = slices.Clone(s.Ways)
	m.made.Steps = append(m.made.Steps, s)
	return at
}

// Here: the number of the step that comes next.
func (m *Maker) Here() int { return len(m.made.Steps) }

// Aim: a step goes on at another one.
func (m *Maker) Aim(step, to int) {
	if m.made.has(step) {
		m.made.Steps[step].A = to
	}
}

// Turn: a way of a step goes on at another one; the way -1 is what else there is.
func (m *Maker) Turn(step, way, to int) {
	if !m.made.has(step) {
		return
	}
	s := &m.made.Steps[step]
	switch {
	case way == none:
		s.B = to
	case among(way, len(s.Ways)):
		s.Ways[way].To = to
	}
}

// Slot: one more slot; its number.
func (m *Maker) Slot() int {
	m.made.Slots++
	return m.made.Slots - 1
}

// Sum: one more sum; its number.
func (m *Maker) Sum() int {
	m.made.Sums++
	return m.made.Sums - 1
}

// Auto: one more automaton; its number.
func (m *Maker) Auto() int {
	m.made.Autos++
	return m.made.Autos - 1
}

// Program: what was put together, if it may be.
func (m *Maker) Program() (Program, api.Fault) {
	if m.over {
		return Program{}, api.Fault{Code: api.ErrLong}
	}
	if f := Check(m.made); f.Code != api.OK {
		return Program{}, f
	}
	return Clone(m.made), api.Fault{}
}
