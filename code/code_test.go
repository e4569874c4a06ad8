package code_test

import (
	"math"
	"reflect"
	"slices"
	"strconv"
	"strings"
	"testing"

	"guipure/api"
	"guipure/code"
	"guipure/sample"
)

// kinds: all kinds of steps.
func kinds() []int {
	var out []int
	for kind := code.Open; kind <= code.End; kind++ {
		out = append(out, kind)
	}
	return out
}

// program: one of some steps, with two slots, three sums and four automata.
func program(steps ...code.Step) code.Program {
	return code.Program{Steps: steps, Slots: 2, Sums: 3, Autos: 4}
}

// wantCheck tells if Check of a program isn't that.
func wantCheck(t *testing.T, p code.Program, want api.Fault) {
	t.Helper()
	if f := code.Check(p); f != want {
		t.Errorf("%+v: %v, want %v", p, f, want)
	}
	if f := check(p); f != want {
		t.Errorf("%+v: the tests' %v, want %v", p, f, want)
	}
}

// P19.1

func TestCheckOfSteps(t *testing.T) {
	ways := func(many, to int) []code.Way { return slices.Repeat([]code.Way{{To: to}}, many) }
	bytes := func(c int, way uint8) [256]uint8 {
		var out [256]uint8
		out[c] = way
		return out
	}
	least, most := math.MinInt, math.MaxInt
	for _, w := range []struct {
		s  code.Step
		ok bool
	}{
		{code.Step{Kind: code.Open, A: least, B: most, Min: 5, Ways: ways(300, -1), Bytes: bytes(0, 9)}, true}, // what it hasn't isn't asked
		{code.Step{Kind: code.Close, A: -7}, true},
		{code.Step{Kind: code.Leave, A: 99, B: 99}, true},
		{code.Step{Kind: code.Return}, true},
		{code.Step{Kind: code.End}, true},

		{code.Step{Kind: code.Fixed, A: 1, B: -1}, true},
		{code.Step{Kind: code.Fixed, A: 8, B: 1, Min: 7, Max: 7}, true},
		{code.Step{Kind: code.Fixed, A: 1, Max: math.MaxUint64, Flag: true}, true}, // its range isn't its width's
		{code.Step{Kind: code.Fixed, A: 0}, false},
		{code.Step{Kind: code.Fixed, A: 9}, false},
		{code.Step{Kind: code.Fixed, A: least}, false},
		{code.Step{Kind: code.Fixed, A: 4, B: -2}, false},
		{code.Step{Kind: code.Fixed, A: 4, B: 2}, false},
		{code.Step{Kind: code.Fixed, A: 4, Min: 8, Max: 7}, false},
		{code.Step{Kind: code.Varint, A: 9, B: 1, Max: math.MaxUint64}, true},
		{code.Step{Kind: code.Varint, B: -1, Min: math.MaxUint64, Max: math.MaxUint64}, true},
		{code.Step{Kind: code.Varint, B: 2}, false},
		{code.Step{Kind: code.Varint, B: least}, false},
		{code.Step{Kind: code.Varint, Min: 1}, false},

		{code.Step{Kind: code.Token}, true},
		{code.Step{Kind: code.Token, A: 3}, true},
		{code.Step{Kind: code.Token, A: 4}, false},
		{code.Step{Kind: code.Token, A: -1}, false},
		{code.Step{Kind: code.Blob, A: -1, Mul: 2, Add: 3}, true},
		{code.Step{Kind: code.Blob, A: 1, B: 77}, true},
		{code.Step{Kind: code.Blob, A: 2}, false},
		{code.Step{Kind: code.Blob, A: -2}, false},
		{code.Step{Kind: code.Enter, A: 1}, true},
		{code.Step{Kind: code.Enter, A: -1}, true},
		{code.Step{Kind: code.Enter, A: 2}, false},
		{code.Step{Kind: code.Enter, A: -2}, false},
		{code.Step{Kind: code.Count, A: 0}, true},
		{code.Step{Kind: code.Count, A: -1}, true},
		{code.Step{Kind: code.Count, A: most}, false},
		{code.Step{Kind: code.Count, A: -2}, false},

		{code.Step{Kind: code.Next, A: 1}, true},
		{code.Step{Kind: code.Next, A: 2}, true},
		{code.Step{Kind: code.Next, A: 3}, false},
		{code.Step{Kind: code.Next, A: -1}, false},
		{code.Step{Kind: code.Jump, A: 0}, true},
		{code.Step{Kind: code.Jump, A: 3}, false},
		{code.Step{Kind: code.Jump, A: -1}, false},
		{code.Step{Kind: code.Many, A: 2}, true},
		{code.Step{Kind: code.Many, A: 3}, false},
		{code.Step{Kind: code.Many, A: -1}, false},
		{code.Step{Kind: code.Call, A: 2}, true},
		{code.Step{Kind: code.Call, A: 3}, false},
		{code.Step{Kind: code.Call, A: -1}, false},

		{code.Step{Kind: code.Mark, A: 2, B: 9}, true},
		{code.Step{Kind: code.Mark, A: 3}, false},
		{code.Step{Kind: code.Mark, A: -1}, false},
		{code.Step{Kind: code.Stop, A: 2}, true},
		{code.Step{Kind: code.Stop, A: 3}, false},
		{code.Step{Kind: code.Stop, A: -1}, false},
		{code.Step{Kind: code.Sum, A: 2, B: 1}, true},
		{code.Step{Kind: code.Sum, A: 3, B: 1}, false},
		{code.Step{Kind: code.Sum, A: -1, B: 1}, false},
		{code.Step{Kind: code.Sum, A: 2, B: 2}, false},
		{code.Step{Kind: code.Sum, A: 2, B: -1}, false},

		{code.Step{Kind: code.Switch, A: 1, B: -1}, true},
		{code.Step{Kind: code.Switch, A: 0, B: 2, Ways: ways(255, 2)}, true},
		{code.Step{Kind: code.Switch, A: 2, B: -1}, false},
		{code.Step{Kind: code.Switch, A: -1, B: -1}, false},
		{code.Step{Kind: code.Switch, A: 1, B: -2}, false},
		{code.Step{Kind: code.Switch, A: 1, B: 3}, false},
		{code.Step{Kind: code.Switch, Ways: ways(256, 2)}, false},
		{code.Step{Kind: code.Switch, Ways: ways(1, 3)}, false},
		{code.Step{Kind: code.Switch, Ways: append(ways(5, 2), ways(1, -1)...)}, false},
		{code.Step{Kind: code.Switch, Bytes: bytes(3, 9)}, true}, // these are a Choice's
		{code.Step{Kind: code.Choice}, true},
		{code.Step{Kind: code.Choice, A: -9, B: 99, Ways: ways(255, 2), Bytes: bytes(255, 255)}, true},
		{code.Step{Kind: code.Choice, Ways: ways(2, 0), Bytes: bytes(0, 2)}, true},
		{code.Step{Kind: code.Choice, Ways: ways(2, 0), Bytes: bytes(0, 3)}, false},
		{code.Step{Kind: code.Choice, Ways: ways(2, 0), Bytes: bytes(255, 3)}, false},
		{code.Step{Kind: code.Choice, Bytes: bytes('a', 1)}, false},
		{code.Step{Kind: code.Choice, Ways: ways(256, 0)}, false},
		{code.Step{Kind: code.Choice, Ways: ways(1, 3)}, false},
		{code.Step{Kind: code.Choice, Ways: ways(1, least)}, false},

		{code.Step{}, false},
		{code.Step{Kind: -1}, false},
		{code.Step{Kind: code.End + 1}, false},
		{code.Step{Kind: least}, false},
		{code.Step{Kind: most}, false},
	} {
		want := api.Fault{}
		if !w.ok {
			want = api.Fault{Code: api.ErrCode, At: 1}
		}
		wantCheck(t, program(code.Step{Kind: code.Open}, w.s, code.Step{Kind: code.End}), want)
	}
}

func TestCheckOfPrograms(t *testing.T) {
	open, end, wrong := code.Step{Kind: code.Open}, code.Step{Kind: code.End}, code.Step{Kind: code.Jump, A: 77}
	long, is := api.Fault{Code: api.ErrLong}, func(at int) api.Fault { return api.Fault{Code: api.ErrCode, At: at} }
	many := func(many int) []code.Step { return append(slices.Repeat([]code.Step{open}, many-1), end) }
	wantCheck(t, code.Program{}, long)
	wantCheck(t, program(), long)
	wantCheck(t, code.Program{Steps: many(1)}, api.Fault{})
	wantCheck(t, code.Program{Steps: many(code.MaxSteps)}, api.Fault{})
	for _, c := range []struct{ slots, sums, autos int }{{-1, 0, 0}, {0, -1, 0}, {0, 0, -1}, {4097, 0, 0}, {0, 4097, 0}, {0, 0, 4097}, {math.MinInt, math.MaxInt, 0}} {
		wantCheck(t, code.Program{Steps: many(2), Slots: c.slots, Sums: c.sums, Autos: c.autos}, long)
		wantCheck(t, code.Program{Steps: []code.Step{wrong}, Slots: c.slots, Sums: c.sums, Autos: c.autos}, long) // it comes first
	}
	wantCheck(t, code.Program{Steps: many(2), Slots: 4096, Sums: 4096, Autos: 4096}, api.Fault{})
	if f := code.Check(code.Program{Steps: append([]code.Step{wrong}, many(code.MaxSteps)...)}); f != long {
		t.Errorf("of too many steps: %v", f)
	}
	wantCheck(t, program(open, wrong, wrong, end), is(1)) // the first one
	wantCheck(t, program(wrong, open), is(0))             // ahead of the last one
	wantCheck(t, program(open, open), is(1))
	wantCheck(t, program(open, wrong), is(1))
	for _, kind := range kinds() {
		s := code.Step{Kind: kind}
		if kind == code.Fixed {
			s.A = 1
		}
		want := is(1)
		if slices.Contains([]int{code.End, code.Return, code.Jump}, kind) {
			want = api.Fault{}
		}
		wantCheck(t, program(open, s), want)
	}
}

// spoilt: a program of which something is another one.
func spoilt(m *sample.Maker, p code.Program) code.Program {
	list := []int{-2, -1, 0, 1, 2, 3, 4, 8, 9, len(p.Steps) - 1, len(p.Steps), 4096, 4097, math.MinInt, math.MaxInt}
	number := list[m.UpTo(len(list))]
	s := &p.Steps[m.UpTo(len(p.Steps))]
	switch m.UpTo(12) {
	case 0:
		p.Slots = number
	case 1:
		p.Sums = number
	case 2:
		p.Autos = number
	case 3:
		s.Kind = number
	case 4, 5:
		s.A = number
	case 6, 7:
		s.B = number
	case 8:
		s.Min, s.Max = s.Max, s.Min
	case 9:
		if len(s.Ways) > 0 {
			s.Ways[m.UpTo(len(s.Ways))].To = number
		}
	case 10:
		s.Bytes[m.UpTo(256)] = uint8(m.UpTo(5))
	case 11:
		p.Steps = p.Steps[:1+m.UpTo(len(p.Steps))]
	}
	return p
}

func TestCheckAndReachedOfSamples(t *testing.T) {
	m := &sample.Maker{Seed: 26}
	met := map[api.Errno]int{}
	for range 6000 {
		p := m.Program(1 + m.UpTo(12))
		if f := code.Check(p); f != (api.Fault{}) {
			t.Fatalf("%+v: %v", p, f)
		}
		for range m.UpTo(3) {
			p = spoilt(m, p)
		}
		kept := code.Clone(p)
		want := check(p)
		met[want.Code]++
		if f := code.Check(p); f != want {
			t.Fatalf("%+v: %v, want %v", p, f, want)
		}
		if got, want := code.Reached(p), reached(p); !slices.Equal(got, want) {
			t.Fatalf("%s: %v, want %v", strings.Join(code.Lines(p), "\n"), got, want)
		}
		if !reflect.DeepEqual(p, kept) {
			t.Fatalf("%+v was changed", p)
		}
	}
	if len(met) != 3 || met[api.OK] < 1000 || met[api.ErrCode] < 1000 || met[api.ErrLong] < 100 {
		t.Errorf("met: %v", met)
	}
}

func TestName(t *testing.T) {
	want := strings.Fields("open close fixed varint token blob enter leave count next jump many switch choice call return mark stop sum end")
	for i, kind := range kinds() {
		if kind != i+1 || code.Name(kind) != want[i] {
			t.Errorf("Name of %d: %q, want %q", kind, code.Name(kind), want[i])
		}
	}
	if len(kinds()) != len(want) {
		t.Errorf("there are %d kinds", len(kinds()))
	}
	for _, kind := range []int{0, -1, code.End + 1, math.MinInt, math.MaxInt} {
		if code.Name(kind) != "" {
			t.Errorf("Name of %d: %q", kind, code.Name(kind))
		}
	}
}

// P19.2

func TestReached(t *testing.T) {
	ways := func(list ...int) []code.Way {
		var out []code.Way
		for _, to := range list {
			out = append(out, code.Way{To: to})
		}
		return out
	}
	open, end := code.Step{Kind: code.Open}, code.Step{Kind: code.End}
	for _, w := range []struct {
		begin code.Step
		want  string // the steps that can be met, of five in all, behind each of which it goes on
	}{
		{code.Step{Kind: code.Open}, "01234"},
		{code.Step{Kind: code.Jump, A: 3}, "034"},
		{code.Step{Kind: code.Jump, A: 0}, "0"},
		{code.Step{Kind: code.Next, A: 3}, "01234"},
		{code.Step{Kind: code.Many, A: 4}, "01234"},
		{code.Step{Kind: code.Call, A: 2}, "01234"},
		{code.Step{Kind: code.Switch, B: -1}, "0"},
		{code.Step{Kind: code.Switch, B: -1, Ways: ways(3)}, "034"},
		{code.Step{Kind: code.Switch, B: 4, Ways: ways()}, "04"},
		{code.Step{Kind: code.Switch, B: 2, Ways: ways(4, 3)}, "0234"},
		{code.Step{Kind: code.Choice, Ways: ways(2)}, "0234"}, // whatever its bytes are
		{code.Step{Kind: code.Choice, B: 1, A: 1, Ways: ways(4, 3)}, "034"},
		{code.Step{Kind: code.Choice}, "0"},
		{code.Step{Kind: code.Return, A: 3}, "0"},
		{code.Step{Kind: code.End, A: 3}, "0"},
		{code.Step{Kind: code.Mark, A: 2}, "01234"},
		{code.Step{Kind: code.Leave, A: 3}, "01234"},
		{code.Step{Kind: code.Jump, A: 5}, ""}, // it may not be
		{code.Step{}, ""},
	} {
		p := program(w.begin, open, open, open, end)
		got := ""
		for at, ok := range code.Reached(p) {
			if ok {
				got += strconv.Itoa(at)
			}
		}
		if got != w.want || len(code.Reached(p)) != 5 {
			t.Errorf("%+v: %s, want %s", w.begin, got, w.want)
		}
	}
	back := program(code.Step{Kind: code.Call, A: 4}, code.Step{Kind: code.Jump, A: 3}, open, end, code.Step{Kind: code.Many, A: 6}, code.Step{Kind: code.Jump, A: 4}, code.Step{Kind: code.Return})
	if got := code.Reached(back); !slices.Equal(got, []bool{true, true, false, true, true, true, true}) {
		t.Errorf("back and forth: %v", got)
	}
	if got := code.Reached(code.Program{}); len(got) != 0 {
		t.Errorf("of no steps: %v", got)
	}
	far := code.Program{Steps: append(slices.Repeat([]code.Step{open}, code.MaxSteps-1), end)}
	if slices.Contains(code.Reached(far), false) {
		t.Error("of many steps")
	}
	far.Steps = append(far.Steps, end)
	if got := code.Reached(far); len(got) != code.MaxSteps+1 || slices.Contains(got, true) {
		t.Error("of too many steps")
	}
}

func TestLines(t *testing.T) {
	got := code.Lines(program(
		code.Step{Kind: code.Open},
		code.Step{Kind: code.Fixed, A: 2, B: -1, Max: 9, Flag: true},
		code.Step{Kind: code.Switch, A: 1, B: 5, Add: 3, Ways: []code.Way{{Value: 7, To: 4}, {Value: math.MaxUint64, To: 5}}},
		code.Step{Kind: code.Choice, Ways: []code.Way{{Value: 0, To: 1}}},
		code.Step{Kind: 77, A: math.MinInt, B: math.MaxInt},
		code.Step{Kind: code.Jump, Ways: []code.Way{{Value: 1, To: -1}}},
		code.Step{Kind: code.End},
	))
	want := []string{"0 open 0 0", "1 fixed 2 -1", "2 switch 1 5 7 > 4 18446744073709551615 > 5", "3 choice 0 0 0 > 1", "4  -9223372036854775808 9223372036854775807", "5 jump 0 0 1 > -1", "6 end 0 0"}
	if !slices.Equal(got, want) {
		t.Errorf("%q, want %q", got, want)
	}
	if got := code.Lines(code.Program{}); len(got) != 0 {
		t.Errorf("of no steps: %q", got)
	}
	m := &sample.Maker{Seed: 27}
	for range 200 {
		p := m.Program(15)
		lines := code.Lines(p)
		for at, s := range p.Steps {
			words := strings.Split(lines[at], " ")
			if len(lines) != len(p.Steps) || len(words) != 4+3*len(s.Ways) || words[0] != strconv.Itoa(at) || words[1] != code.Name(s.Kind) || words[2] != strconv.Itoa(s.A) || words[3] != strconv.Itoa(s.B) {
				t.Fatalf("%+v: %q", s, lines[at])
			}
			for i, w := range s.Ways {
				if !slices.Equal(words[4+3*i:7+3*i], []string{strconv.FormatUint(w.Value, 10), ">", strconv.Itoa(w.To)}) {
					t.Fatalf("%+v: %q", s, lines[at])
				}
			}
		}
	}
}

// spoil changes all memory of a program, its spare room too.
func spoil(p code.Program) {
	all := p.Steps[:cap(p.Steps)]
	for i := range all {
		ways := all[i].Ways[:cap(all[i].Ways)]
		for k := range ways {
			ways[k] = code.Way{Value: 99, To: 99}
		}
		all[i] = code.Step{Kind: 99}
	}
}

// roomy: the same program, with spare room behind its lists.
func roomy(p code.Program) code.Program {
	p = code.Clone(p)
	p.Steps = append(p.Steps, code.Step{Kind: 55})[:len(p.Steps)]
	for i, s := range p.Steps {
		p.Steps[i].Ways = append(s.Ways, code.Way{Value: 55})[:len(s.Ways)]
	}
	return p
}

// kept: is the spare room of a program as roomy left it?
func kept(p code.Program) bool {
	ok := p.Steps[:len(p.Steps)+1][len(p.Steps)].Kind == 55
	for _, s := range p.Steps {
		ok = ok && s.Ways[:len(s.Ways)+1][len(s.Ways)].Value == 55
	}
	return ok
}

// same: are two programs the same, whether empty lists are there or not?
func same(a, b code.Program) bool {
	return a.Slots == b.Slots && a.Sums == b.Sums && a.Autos == b.Autos && slices.EqualFunc(a.Steps, b.Steps, func(x, y code.Step) bool {
		ok := slices.Equal(x.Ways, y.Ways)
		x.Ways, y.Ways = nil, nil
		return ok && reflect.DeepEqual(x, y)
	})
}

func TestClone(t *testing.T) {
	m := &sample.Maker{Seed: 28}
	for range 500 {
		p := roomy(spoilt(m, m.Program(9)))
		got, again := code.Clone(p), code.Clone(p)
		if !same(got, p) {
			t.Fatalf("%+v, want %+v", got, p)
		}
		spoil(got)
		if !same(again, p) || !kept(p) {
			t.Fatalf("%+v shares memory with its clone", p)
		}
		spoil(p)
		if slices.ContainsFunc(again.Steps, func(s code.Step) bool { return s.Kind == 99 && s.A == 0 }) {
			t.Fatalf("a clone shares memory with what it is of")
		}
	}
	if got := code.Clone(code.Program{Slots: -1, Sums: 2, Autos: 3}); len(got.Steps) != 0 || got.Slots != -1 || got.Sums != 2 || got.Autos != 3 {
		t.Errorf("of no steps: %+v", got)
	}
}

// Example of the chapter.
func TestExample(t *testing.T) {
	p := code.Program{Steps: []code.Step{{Kind: code.Fixed, A: 1, B: -1}, {Kind: code.Jump, A: 3}, {Kind: code.Close}, {Kind: code.End}}}
	wantCheck(t, p, api.Fault{})
	if got := code.Reached(p); !slices.Equal(got, []bool{true, true, false, true}) {
		t.Error(got)
	}
}
