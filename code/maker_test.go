package code_test

import (
	"math"
	"testing"

	"guipure/api"
	"guipure/code"
	"guipure/sample"
)

// P19.3

func TestMaker(t *testing.T) {
	var m code.Maker
	if m.Here() != 0 {
		t.Errorf("Here of none: %d", m.Here())
	}
	if p, f := m.Program(); f != (api.Fault{Code: api.ErrLong}) || !same(p, code.Program{}) {
		t.Errorf("Program of none: %+v, %v", p, f)
	}
	for i := range 3 {
		if a, b := m.Slot(), m.Slot(); a != 2*i || b != 2*i+1 || m.Sum() != i {
			t.Errorf("Slot, Sum: %d, %d", a, b)
		}
	}
	if m.Auto() != 0 {
		t.Error("Auto")
	}
	steps := []code.Step{
		{Kind: code.Switch, A: 5, B: -1, Add: 7, Ways: []code.Way{{Value: 3}, {Value: 4}}},
		{Kind: code.Choice, Ways: []code.Way{{Value: 3}}, Bytes: [256]uint8{9: 1}},
		{Kind: code.Sum, A: 2, B: 5},
		{Kind: code.Token},
		{Kind: code.Jump, A: 1},
	}
	for i, s := range steps {
		if at := m.Add(s); at != i || m.Here() != i+1 {
			t.Errorf("Add: %d, want %d", at, i)
		}
	}
	p, f := m.Program()
	if want := (code.Program{Steps: steps, Slots: 6, Sums: 3, Autos: 1}); f != (api.Fault{}) || !same(p, want) {
		t.Errorf("%+v, %v, want %+v", p, f, want)
	}
}

// added: a maker of a program's steps.
func added(p code.Program) *code.Maker {
	var m code.Maker
	for _, s := range p.Steps {
		m.Add(s)
	}
	for range p.Slots {
		m.Slot()
	}
	for range p.Sums {
		m.Sum()
	}
	for range p.Autos {
		m.Auto()
	}
	return &m
}

func TestAimAndTurn(t *testing.T) {
	start := program(
		code.Step{Kind: code.Jump, A: 1, B: 2},
		code.Step{Kind: code.Switch, A: 1, B: 2, Ways: []code.Way{{Value: 5, To: 1}, {Value: 6, To: 2}}},
		code.Step{Kind: code.End, A: 1, B: 2},
	)
	for _, w := range []struct {
		do   func(m *code.Maker)
		want func(p *code.Program)
	}{
		{func(m *code.Maker) { m.Aim(0, 2) }, func(p *code.Program) { p.Steps[0].A = 2 }},
		{func(m *code.Maker) { m.Aim(2, 0) }, func(p *code.Program) { p.Steps[2].A = 0 }}, // whatever it is
		{func(m *code.Maker) { m.Aim(1, 0) }, func(p *code.Program) { p.Steps[1].A = 0 }},
		{func(m *code.Maker) { m.Aim(3, 0) }, func(p *code.Program) {}},
		{func(m *code.Maker) { m.Aim(-1, 0) }, func(p *code.Program) {}},
		{func(m *code.Maker) { m.Aim(math.MinInt, 0); m.Aim(math.MaxInt, 0) }, func(p *code.Program) {}},
		{func(m *code.Maker) { m.Turn(1, 0, 2) }, func(p *code.Program) { p.Steps[1].Ways[0].To = 2 }},
		{func(m *code.Maker) { m.Turn(1, 1, 0) }, func(p *code.Program) { p.Steps[1].Ways[1].To = 0 }},
		{func(m *code.Maker) { m.Turn(1, -1, 0) }, func(p *code.Program) { p.Steps[1].B = 0 }},
		{func(m *code.Maker) { m.Turn(1, -1, -1) }, func(p *code.Program) { p.Steps[1].B = -1 }},
		{func(m *code.Maker) { m.Turn(0, -1, 0) }, func(p *code.Program) { p.Steps[0].B = 0 }},
		{func(m *code.Maker) { m.Turn(1, 2, 0) }, func(p *code.Program) {}},
		{func(m *code.Maker) { m.Turn(1, -2, 0) }, func(p *code.Program) {}},
		{func(m *code.Maker) { m.Turn(0, 0, 0) }, func(p *code.Program) {}}, // it has no ways
		{func(m *code.Maker) { m.Turn(3, 0, 0); m.Turn(3, -1, 0); m.Turn(-1, -1, 0) }, func(p *code.Program) {}},
		{func(m *code.Maker) { m.Turn(1, math.MinInt, 0); m.Turn(1, math.MaxInt, 0); m.Turn(math.MaxInt, 0, 0) }, func(p *code.Program) {}},
	} {
		m := added(start)
		w.do(m)
		want := code.Clone(start)
		w.want(&want)
		if got, f := m.Program(); f != (api.Fault{}) || !same(got, want) || m.Here() != 3 {
			t.Errorf("%+v, %v, want %+v", got, f, want)
		}
	}
	m := added(start)
	m.Aim(0, 3)
	if got, f := m.Program(); f != (api.Fault{Code: api.ErrCode}) || !same(got, code.Program{}) {
		t.Errorf("to no step: %+v, %v", got, f)
	}
	m.Aim(0, 2)
	m.Turn(1, 0, -7)
	if _, f := m.Program(); f != (api.Fault{Code: api.ErrCode, At: 1}) {
		t.Errorf("a way to no step: %v", f)
	}
	m.Turn(1, 0, 2) // a refused program changes nothing
	if _, f := m.Program(); f != (api.Fault{}) {
		t.Errorf("right again: %v", f)
	}
}

func TestTooManySteps(t *testing.T) {
	var m code.Maker
	for i := range code.MaxSteps - 1 {
		if at := m.Add(code.Step{Kind: code.Open}); at != i {
			t.Fatalf("Add: %d, want %d", at, i)
		}
	}
	m.Add(code.Step{Kind: code.End})
	if p, f := m.Program(); f != (api.Fault{}) || len(p.Steps) != code.MaxSteps {
		t.Errorf("of as many as may be: %v", f)
	}
	if at := m.Add(code.Step{Kind: code.End}); at != 0 || m.Here() != code.MaxSteps {
		t.Errorf("one more: %d, of %d", at, m.Here())
	}
	for range 2 {
		if p, f := m.Program(); f != (api.Fault{Code: api.ErrLong}) || !same(p, code.Program{}) {
			t.Errorf("of too many: %v", f)
		}
	}
	m.Aim(0, -1)
	m.Turn(0, -1, 5)
	if _, f := m.Program(); f != (api.Fault{Code: api.ErrLong}) {
		t.Errorf("of too many: %v", f)
	}
}

func TestTooManySlots(t *testing.T) {
	for _, add := range []func(*code.Maker) int{(*code.Maker).Slot, (*code.Maker).Sum, (*code.Maker).Auto} {
		var m code.Maker
		m.Add(code.Step{Kind: code.End})
		for i := range code.MaxSlots {
			if got := add(&m); got != i {
				t.Fatalf("%d, want %d", got, i)
			}
		}
		if _, f := m.Program(); f != (api.Fault{}) {
			t.Errorf("as many as may be: %v", f)
		}
		add(&m)
		if p, f := m.Program(); f != (api.Fault{Code: api.ErrLong}) || !same(p, code.Program{}) {
			t.Errorf("one more: %v", f)
		}
	}
}

// What a Maker answers is Check's, and nothing is kept of what was handed in, nor shared with what is answered.
func TestMakersAreTheirOwn(t *testing.T) {
	chance := &sample.Maker{Seed: 29}
	for range 1000 {
		p := roomy(chance.Program(9))
		for range chance.UpTo(2) {
			s := &p.Steps[chance.UpTo(len(p.Steps))]
			s.A, s.B = s.B-chance.UpTo(2), s.A+chance.UpTo(2)
		}
		whole := code.Clone(p)
		m := added(p)
		before, f := m.Program()
		if want := check(p); f != want {
			t.Fatalf("%+v: %v, want %v", p, f, want)
		}
		if !kept(p) || !same(p, whole) {
			t.Fatalf("%+v was changed", p)
		}
		spoil(p)
		spoil(before)
		if f.Code != api.OK {
			continue
		}
		after, _ := m.Program()
		if !same(after, whole) {
			t.Fatalf("%+v shares memory, want %+v", after, whole)
		}
		m.Aim(0, 77)
		for at := range m.Here() {
			m.Turn(at, 0, 77)
		}
		if !same(after, whole) {
			t.Fatalf("%+v shares memory with its maker", after)
		}
	}
}
