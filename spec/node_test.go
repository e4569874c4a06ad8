package spec_test

import (
	"math"
	"reflect"
	"slices"
	"strings"
	"testing"

	"guipure/api"
	"guipure/sample"
	"guipure/spec"
)

// P11.1

func TestConstants(t *testing.T) {
	if spec.MaxNodes != 2048 || spec.MaxDefs != 64 || spec.MaxParts != 64 {
		t.Error("the limits")
	}
}

func TestKids(t *testing.T) {
	all := api.Node{
		Kids:   []int{7, 3},
		Fields: []api.Field{{Type: 9}, {Type: -4}},
		Cases:  []api.Case{{Value: 100, Type: 5}, {Type: 5}},
		Else:   6,
	}
	wants := []struct {
		node api.Node
		want []int
	}{
		{api.Node{}, nil},
		{api.Node{Kind: api.Empty}, nil},
		{api.Node{Kind: api.Many, Kids: []int{4}}, []int{4}},
		{api.Node{Kind: api.Chain, Kids: []int{4, 0, 2}, Last: []bool{false, true, true}}, []int{4, 0, 2}},
		{api.Node{Kind: api.Record, Fields: []api.Field{{Name: "a", Type: 1}, {Name: "b", Type: 0}}}, []int{1, 0}},
		{api.Node{Kind: api.Switch, Cases: []api.Case{{Value: 9, Type: 2}, {Value: 3, Type: 1}}, Else: -1}, []int{2, 1}},
		{api.Node{Kind: api.Switch, Cases: []api.Case{{Type: 2}}, Else: -2}, []int{2}},
		{api.Node{Kind: api.Switch, Cases: []api.Case{{Type: 2}}, Else: math.MinInt}, []int{2}},
		{api.Node{Kind: api.Switch, Cases: []api.Case{{Type: 2}}}, []int{2, 0}},
		{api.Node{Kind: api.Switch, Cases: []api.Case{{Type: 2}}, Else: 3}, []int{2, 3}},
		{api.Node{Kind: api.Fixed, Else: 3}, nil},
		{all, []int{7, 3, 9, -4, 5, 5}},
	}
	for _, w := range wants {
		if got := spec.Kids(w.node); !slices.Equal(got, w.want) {
			t.Errorf("Kids of %+v: %v, want %v", w.node, got, w.want)
		}
	}
	all.Kind = api.Switch
	got := spec.Kids(all)
	if want := []int{7, 3, 9, -4, 5, 5, 6}; !slices.Equal(got, want) {
		t.Errorf("Kids: %v, want %v", got, want)
	}
	got[0], all.Kids = 99, append(all.Kids, 8)
	_ = append(got, 99)
	if all.Kids[0] != 7 || got[2] != 9 {
		t.Error("Kids shares what it answers")
	}
}

func TestNumberAndMost(t *testing.T) {
	mosts := []uint64{0, 255, 65535, 1<<24 - 1, 1<<32 - 1, 1<<40 - 1, 1<<48 - 1, 1<<56 - 1, math.MaxUint64, 0}
	for width, want := range mosts {
		if got := spec.Most(api.Node{Kind: api.Fixed, Width: width}); got != want {
			t.Errorf("Most of a Fixed of %d: %d", width, got)
		}
	}
	if spec.Most(api.Node{Kind: api.Fixed, Width: -1}) != 0 || spec.Most(api.Node{Kind: api.Fixed, Width: 1, Min: 3, Max: 5}) != 255 {
		t.Error("Most")
	}
	for kind := -1; kind < 16; kind++ {
		n := api.Node{Kind: kind, Width: 1}
		if got := spec.Number(n); got != (kind == api.Fixed || kind == api.Varint) {
			t.Errorf("Number of the kind %d: %t", kind, got)
		}
		if got := spec.Most(n); kind != api.Fixed && got != math.MaxUint64 {
			t.Errorf("Most of the kind %d: %d", kind, got)
		}
	}
}

// alone: layer 11's error of a type by itself: its parts are right ones.
func alone(n api.Node) api.Errno {
	n = spec.Own(n)
	var s api.Spec
	place := func(at *int) {
		*at = len(s.Nodes)
		s.Nodes = append(s.Nodes, api.Node{Kind: api.Empty})
	}
	for i := range n.Kids {
		place(&n.Kids[i])
	}
	for i := range n.Fields {
		place(&n.Fields[i].Type)
	}
	for i := range n.Cases {
		place(&n.Cases[i].Type)
	}
	if n.Kind == api.Switch && n.Else >= 0 {
		place(&n.Else)
	}
	s.Defs = []api.Def{{Name: "main", Type: len(s.Nodes)}}
	s.Nodes = append(s.Nodes, n)
	return spec.Check(s)
}

// Types by themselves, put together shortly.

func fixed(width int, low, high uint64) api.Node {
	return api.Node{Kind: api.Fixed, Width: width, Min: low, Max: high}
}

func varint(low, high uint64) api.Node { return api.Node{Kind: api.Varint, Min: low, Max: high} }

func record(many int) api.Node {
	return api.Node{Kind: api.Record, Fields: slices.Repeat([]api.Field{{Name: "f"}}, many)}
}

func choice(many int) api.Node { return api.Node{Kind: api.Choice, Kids: make([]int, many)} }

func chain(many int) api.Node {
	return api.Node{Kind: api.Chain, Kids: make([]int, many), Last: make([]bool, many)}
}

func choose(many, other int) api.Node {
	return api.Node{Kind: api.Switch, Reg: "n", Cases: make([]api.Case, many), Else: other}
}

func around(kind int) api.Node { return api.Node{Kind: kind, Kids: []int{0}} }

// with: a type to which something was done.
func with(n api.Node, do func(*api.Node)) api.Node {
	n = spec.Own(n)
	do(&n)
	return n
}

// kinds: of each kind one that may be.
func kinds() []api.Node {
	return []api.Node{
		fixed(2, 0, 65535), varint(1, 9), {Kind: api.Token, Text: "("}, {Kind: api.Blob}, record(2),
		around(api.Times), around(api.Many), around(api.Within), choose(2, -1), choice(2), chain(2),
		{Kind: api.Empty}, {Kind: api.Use, Text: "a"},
	}
}

func TestTypesThatMayBe(t *testing.T) {
	list := append(kinds(),
		fixed(1, 0, 0), fixed(1, 255, 255), fixed(8, 0, math.MaxUint64), fixed(3, 1<<24-1, 1<<24-1),
		api.Node{Kind: api.Fixed, Width: 2, Little: true}, varint(math.MaxUint64, math.MaxUint64), varint(0, 0),
		api.Node{Kind: api.Varint, Zig: true, Lenient: true, Max: 4},
		api.Node{Kind: api.Token, Text: "\x00"}, api.Node{Kind: api.Use, Text: "u8"},
		api.Node{Kind: api.Blob, Expr: api.Expr{Add: math.MaxUint64}},
		api.Node{Kind: api.Blob, Expr: api.Expr{Reg: "n", Mul: 1}},
		with(around(api.Within), func(n *api.Node) { n.Expr = api.Expr{Reg: "\xff", Mul: math.MaxUint64, Add: 1} }),
		record(1), record(64), choice(1), choice(64), chain(1), chain(64), choose(1, 0), choose(64, 5), choose(64, -1),
		with(choose(1, -1), func(n *api.Node) { n.Mod = math.MaxUint64 }),
		// How a field is derived, and what a case goes by, layers 15 and 16 look at.
		with(record(1), func(n *api.Node) { n.Fields[0] = api.Field{Derive: 99, Of: "x", To: "y"} }),
	)
	for _, n := range list {
		if e := alone(n); e != api.OK {
			t.Errorf("%+v: %v", n, e)
		}
	}
}

func TestTypesThatMayNotBe(t *testing.T) {
	wants := []struct {
		node api.Node
		want api.Errno
	}{
		{api.Node{}, api.ErrForm},
		{api.Node{Kind: -1}, api.ErrForm},
		{api.Node{Kind: 14}, api.ErrForm},
		{api.Node{Kind: math.MaxInt, Text: "a"}, api.ErrForm},
		{api.Node{Kind: api.Times}, api.ErrForm},
		{api.Node{Kind: api.Many}, api.ErrForm},
		{api.Node{Kind: api.Within, Kids: []int{0, 0}}, api.ErrForm},
		{choice(0), api.ErrForm},
		{chain(0), api.ErrForm},
		{record(0), api.ErrForm},
		{choose(0, -1), api.ErrForm},
		{choose(0, 0), api.ErrForm},
		{choose(1, -2), api.ErrForm},
		{choose(1, math.MinInt), api.ErrForm},
		{with(choose(1, -1), func(n *api.Node) { n.Reg = "" }), api.ErrForm},
		{with(chain(2), func(n *api.Node) { n.Last = n.Last[:1] }), api.ErrForm},
		{with(chain(2), func(n *api.Node) { n.Last = append(n.Last, true) }), api.ErrForm},
		{with(chain(2), func(n *api.Node) { n.Last = nil }), api.ErrForm},
		{record(65), api.ErrLong},
		{choice(65), api.ErrLong},
		{chain(65), api.ErrLong},
		{choose(65, -1), api.ErrLong},
		{with(chain(65), func(n *api.Node) { n.Last = n.Last[:64] }), api.ErrForm},
		{with(choose(65, -2), func(n *api.Node) {}), api.ErrForm},
		{fixed(0, 0, 0), api.ErrRange},
		{fixed(9, 0, 0), api.ErrRange},
		{fixed(-1, 0, 0), api.ErrRange},
		{fixed(math.MaxInt, 0, 0), api.ErrRange},
		{api.Node{Kind: api.Fixed, Width: 1, Little: true}, api.ErrForm},
		{api.Node{Kind: api.Fixed, Width: 1, Little: true, Min: 2, Max: 1}, api.ErrForm},
		{api.Node{Kind: api.Fixed, Width: 9, Little: true, Zig: true}, api.ErrRange},
		{api.Node{Kind: api.Fixed, Width: 0, Zig: true}, api.ErrRange},
		{api.Node{Kind: api.Fixed, Width: 2, Zig: true}, api.ErrForm},
		{api.Node{Kind: api.Fixed, Width: 2, Lenient: true}, api.ErrForm},
		{api.Node{Kind: api.Varint, Little: true}, api.ErrForm},
		{api.Node{Kind: api.Varint, Width: 1}, api.ErrForm},
		{api.Node{Kind: api.Varint, Width: -1}, api.ErrForm},
		{api.Node{Kind: api.Varint, Width: 1, Min: 2}, api.ErrForm},
		{fixed(1, 2, 1), api.ErrRange},
		{fixed(1, 0, 256), api.ErrRange},
		{fixed(7, 0, 1<<56), api.ErrRange},
		{fixed(2, 65536, 65536), api.ErrRange},
		{varint(1, 0), api.ErrRange},
		{varint(math.MaxUint64, 1), api.ErrRange},
		{with(varint(1, 0), func(n *api.Node) { n.Text = "a" }), api.ErrRange},
		{api.Node{Kind: api.Empty, Max: 1}, api.ErrForm},
		{api.Node{Kind: api.Blob, Min: 1}, api.ErrForm},
		{api.Node{Kind: api.Token}, api.ErrForm},
		{api.Node{Kind: api.Use}, api.ErrForm},
		{with(varint(0, 1), func(n *api.Node) { n.Text = "a" }), api.ErrForm},
		{with(choose(1, 0), func(n *api.Node) { n.Text = "a" }), api.ErrForm},
		{api.Node{Kind: api.Blob, Expr: api.Expr{Reg: "n"}}, api.ErrForm},
		{api.Node{Kind: api.Blob, Expr: api.Expr{Reg: "n", Add: 2}}, api.ErrForm},
		{api.Node{Kind: api.Blob, Expr: api.Expr{Mul: 1}}, api.ErrForm},
		{api.Node{Kind: api.Blob, Expr: api.Expr{Mul: 1, Add: 2}}, api.ErrForm},
		{with(around(api.Many), func(n *api.Node) { n.Expr.Add = 1 }), api.ErrForm},
		{with(fixed(1, 0, 1), func(n *api.Node) { n.Expr = api.Expr{Reg: "n", Mul: 1} }), api.ErrForm},
		{with(choose(1, 0), func(n *api.Node) { n.Expr.Mul = 1 }), api.ErrForm},
	}
	for _, w := range wants {
		if e := alone(w.node); e != w.want {
			t.Errorf("%+v: %v, want %v", w.node, e, w.want)
		}
	}
}

// clause is one of the chapter's, which tells an error of some types.
type clause struct {
	code  api.Errno
	tells func(n api.Node) bool
}

// among: is a number one of some?
func among(n int, list ...int) bool { return slices.Contains(list, n) }

// clauses: as the chapter has them, in its order.
func clauses() []clause {
	return []clause{
		{api.ErrForm, func(n api.Node) bool { return n.Kind < 1 || n.Kind > 13 }},
		{api.ErrForm, func(n api.Node) bool { return among(n.Kind, api.Times, api.Many, api.Within) && len(n.Kids) != 1 }},
		{api.ErrForm, func(n api.Node) bool { return among(n.Kind, api.Choice, api.Chain) && len(n.Kids) < 1 }},
		{api.ErrForm, func(n api.Node) bool {
			return !among(n.Kind, api.Times, api.Many, api.Within, api.Choice, api.Chain) && len(n.Kids) > 0
		}},
		{api.ErrForm, func(n api.Node) bool { return n.Kind == api.Chain && len(n.Last) != len(n.Kids) }},
		{api.ErrForm, func(n api.Node) bool { return n.Kind != api.Chain && len(n.Last) > 0 }},
		{api.ErrForm, func(n api.Node) bool { return n.Kind == api.Record && len(n.Fields) == 0 }},
		{api.ErrForm, func(n api.Node) bool { return n.Kind != api.Record && len(n.Fields) > 0 }},
		{api.ErrForm, func(n api.Node) bool { return n.Kind == api.Switch && (len(n.Cases) == 0 || n.Reg == "") }},
		{api.ErrForm, func(n api.Node) bool {
			return n.Kind != api.Switch && (len(n.Cases) > 0 || n.Reg != "" || n.Mod != 0 || n.Else != 0)
		}},
		{api.ErrForm, func(n api.Node) bool { return n.Kind == api.Switch && n.Else < -1 }},
		{api.ErrLong, func(n api.Node) bool { return len(n.Kids) > 64 || len(n.Fields) > 64 || len(n.Cases) > 64 }},
		{api.ErrRange, func(n api.Node) bool { return n.Kind == api.Fixed && (n.Width < 1 || n.Width > 8) }},
		{api.ErrForm, func(n api.Node) bool { return n.Kind != api.Fixed && (n.Width != 0 || n.Little) }},
		{api.ErrForm, func(n api.Node) bool { return n.Width == 1 && n.Little }},
		{api.ErrForm, func(n api.Node) bool { return n.Kind != api.Varint && (n.Zig || n.Lenient) }},
		{api.ErrRange, func(n api.Node) bool { return n.Kind <= api.Varint && n.Min > n.Max }},
		{api.ErrRange, func(n api.Node) bool { return n.Kind == api.Fixed && n.Width < 8 && n.Max>>(8*n.Width) > 0 }},
		{api.ErrForm, func(n api.Node) bool { return n.Kind > api.Varint && (n.Min != 0 || n.Max != 0) }},
		{api.ErrForm, func(n api.Node) bool { return among(n.Kind, api.Token, api.Use) && n.Text == "" }},
		{api.ErrForm, func(n api.Node) bool { return !among(n.Kind, api.Token, api.Use) && n.Text != "" }},
		{api.ErrForm, func(n api.Node) bool {
			return !among(n.Kind, api.Blob, api.Times, api.Within) && (n.Expr.Reg != "" || n.Expr.Mul != 0 || n.Expr.Add != 0)
		}},
		{api.ErrForm, func(n api.Node) bool { return n.Expr.Reg != "" && n.Expr.Mul == 0 }},
		{api.ErrForm, func(n api.Node) bool { return n.Expr.Reg == "" && n.Expr.Mul != 0 }},
	}
}

// deeds: what makes another type of one.
func deeds() []func(*api.Node) {
	return []func(*api.Node){
		func(n *api.Node) { n.Kind = api.Empty },
		func(n *api.Node) { n.Kind = api.Fixed },
		func(n *api.Node) { n.Kind = api.Varint },
		func(n *api.Node) { n.Kind = 0 },
		func(n *api.Node) { n.Kind = 14 },
		func(n *api.Node) { n.Kids = nil },
		func(n *api.Node) { n.Kids = make([]int, 2) },
		func(n *api.Node) { n.Kids = make([]int, 65) },
		func(n *api.Node) { n.Last = nil },
		func(n *api.Node) { n.Last = make([]bool, 2) },
		func(n *api.Node) { n.Last = make([]bool, 65) },
		func(n *api.Node) { n.Fields = nil },
		func(n *api.Node) { n.Fields = make([]api.Field, 65) },
		func(n *api.Node) { n.Fields = make([]api.Field, 1) },
		func(n *api.Node) { n.Cases = nil },
		func(n *api.Node) { n.Cases = make([]api.Case, 1) },
		func(n *api.Node) { n.Cases = make([]api.Case, 65) },
		func(n *api.Node) { n.Reg = "" },
		func(n *api.Node) { n.Reg = "r" },
		func(n *api.Node) { n.Mod = 3 },
		func(n *api.Node) { n.Else = 0 },
		func(n *api.Node) { n.Else = -1 },
		func(n *api.Node) { n.Else = -2 },
		func(n *api.Node) { n.Width = 0 },
		func(n *api.Node) { n.Width = 1 },
		func(n *api.Node) { n.Width = 9 },
		func(n *api.Node) { n.Width = -1 },
		func(n *api.Node) { n.Little = true },
		func(n *api.Node) { n.Zig = true },
		func(n *api.Node) { n.Lenient = true },
		func(n *api.Node) { n.Min = 300 },
		func(n *api.Node) { n.Max = 256 },
		func(n *api.Node) { n.Max = 0 },
		func(n *api.Node) { n.Text = "" },
		func(n *api.Node) { n.Text = "t" },
		func(n *api.Node) { n.Expr = api.Expr{} },
		func(n *api.Node) { n.Expr = api.Expr{Reg: "n", Mul: 2} },
		func(n *api.Node) { n.Expr.Mul = 0 },
		func(n *api.Node) { n.Expr.Mul = 1 },
		func(n *api.Node) { n.Expr.Reg = "n" },
		func(n *api.Node) { n.Expr.Add = 7 },
	}
}

// Of each kind, to which up to three things are done, the clause that tells first holds.
func TestTheFirstErrorOfAType(t *testing.T) {
	list := deeds()
	var met [256]int
	try := func(n api.Node) {
		want := api.OK
		for _, c := range clauses() {
			if c.tells(n) {
				want = c.code
				break
			}
		}
		met[want]++
		if e := alone(n); e != want {
			t.Errorf("%+v: %v, want %v", n, e, want)
		}
	}
	m := sample.Maker{Seed: 5}
	for _, n := range kinds() {
		try(n)
		for _, one := range list {
			a := with(n, one)
			try(a)
			for _, two := range list {
				b := with(a, two)
				try(b)
				try(with(b, list[m.UpTo(len(list))]))
			}
		}
	}
	for _, code := range []api.Errno{api.OK, api.ErrForm, api.ErrLong, api.ErrRange} {
		if met[code] < 100 {
			t.Errorf("%v was met %d times alone", code, met[code])
		}
	}
}

// P11.3

func TestOwn(t *testing.T) {
	full := api.Node{
		Kind: api.Chain, Width: 3, Little: true, Zig: true, Lenient: true, Min: 4, Max: 5, Text: "t",
		Expr: api.Expr{Reg: "r", Mul: 6, Add: 7}, Kids: []int{1, 2}, Last: []bool{true, false},
		Fields: []api.Field{{Name: "f", Type: 8, Derive: 3, Of: "o", To: "p"}, {}}, Reg: "s", Mod: 9,
		Cases: []api.Case{{Value: 10, Type: 11}}, Else: 12,
	}
	list := append(kinds(), full, api.Node{}, api.Node{Kids: []int{}, Cases: []api.Case{}})
	for _, n := range list {
		if got := spec.Own(n); !reflect.DeepEqual(got, n) {
			t.Errorf("Own of %+v: %+v", n, got)
		}
	}
	room := full
	room.Kids = append(make([]int, 0, 9), 1, 2)
	got := spec.Own(room)
	got.Kids[0], got.Last[0], got.Fields[0].Name, got.Cases[0].Value = 99, false, strings.Repeat("x", 2), 99
	_ = append(got.Kids, 99)
	if !reflect.DeepEqual(room, full) || room.Kids[:3][2] != 0 {
		t.Errorf("Own shares: %+v", room)
	}
}
