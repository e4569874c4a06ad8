package spec_test

import (
	"math"
	"reflect"
	"slices"
	"testing"

	"guipure/api"
	"guipure/sample"
	"guipure/spec"
)

var empty = api.Node{Kind: api.Empty}

// of: a specification of types, the last one of which is the whole's.
func of(nodes ...api.Node) api.Spec {
	return api.Spec{Nodes: nodes, Defs: []api.Def{{Name: "main", Type: len(nodes) - 1}}}
}

// choiceOf: a Choice of these types.
func choiceOf(kids ...int) api.Node { return api.Node{Kind: api.Choice, Kids: kids} }

// named: types, some of which have the names a, b and so on.
func named(nodes []api.Node, kinds ...int) api.Spec {
	s := api.Spec{Nodes: nodes}
	for i, kind := range kinds {
		s.Defs = append(s.Defs, api.Def{Name: string(rune('a' + i%26)), Type: kind})
	}
	return s
}

// rising: the numbers from 0 to less than n.
func rising(n int) []int {
	out := make([]int, n)
	for i := range out {
		out[i] = i
	}
	return out
}

// P11.2

func TestCheck(t *testing.T) {
	bad := api.Node{Kind: api.Token}
	long := choiceOf(rising(65)...)
	empties := slices.Repeat([]api.Node{empty}, 70)
	wants := []struct {
		name string
		spec api.Spec
		want api.Errno
	}{
		{"one", of(empty), api.OK},
		{"the example", of(fixed(1, 0, 255), api.Node{Kind: api.Blob, Expr: api.Expr{Reg: "n", Mul: 1}}, api.Node{Kind: api.Record, Fields: []api.Field{{Name: "n", Type: 0}, {Name: "d", Type: 1}}}), api.OK},
		{"two names", named(empties[:2], 1, 0), api.OK},
		{"the same name", api.Spec{Nodes: empties[:2], Defs: []api.Def{{Type: 0}, {Type: 1}}}, api.OK},
		{"parts in another order", of(empty, empty, choiceOf(1, 0)), api.OK},
		{"an Else", of(empty, empty, api.Node{Kind: api.Switch, Reg: "n", Cases: []api.Case{{Type: 1}}}), api.OK},
		{"2048 types", sample.Nested(2048), api.OK},
		{"2049 types", sample.Nested(2049), api.ErrLong},
		{"2049 wrong types", of(slices.Repeat([]api.Node{bad}, 2049)...), api.ErrLong},
		{"64 names", named(empties[:64], rising(64)...), api.OK},
		{"65 names", named(empties[:65], rising(65)...), api.ErrLong},
		{"65 names of one type", named(empties[:1], make([]int, 65)...), api.ErrLong},
		{"nothing", api.Spec{}, api.ErrLong},
		{"no names", named(empties[:1]), api.ErrLong},
		{"no names, and a wrong type", named([]api.Node{bad}), api.ErrLong},
		{"no types", named(nil, 0), api.ErrMissing},
		{"a wrong type", of(bad), api.ErrForm},
		{"too many parts", of(append(empties[:65:65], long)...), api.ErrLong},
		{"its own error first", of(api.Node{Kind: api.Choice, Kids: []int{5}, Text: "t"}), api.ErrForm},
		{"one type's error ahead of the next one's", of(choiceOf(5), bad), api.ErrMissing},
		{"likewise", of(bad, choiceOf(5)), api.ErrForm},
		{"a part behind", of(choiceOf(1), empty), api.ErrMissing},
		{"itself", of(empty, choiceOf(0, 1)), api.ErrMissing},
		{"a part below 0", of(empty, choiceOf(0, -1)), api.ErrMissing},
		{"a part far off", of(empty, choiceOf(math.MaxInt)), api.ErrMissing},
		{"a part far below", of(empty, choiceOf(math.MinInt)), api.ErrMissing},
		{"an Else that is none", of(empty, api.Node{Kind: api.Switch, Reg: "n", Cases: []api.Case{{}}, Else: 1}), api.ErrMissing},
		{"an Else that is a case's", of(empty, api.Node{Kind: api.Switch, Reg: "n", Cases: []api.Case{{}}}), api.ErrTwice},
		{"twice in one", of(empty, choiceOf(0, 0)), api.ErrTwice},
		{"twice in two", of(empty, choiceOf(0), choiceOf(1, 0)), api.ErrTwice},
		{"fields of one type", of(empty, api.Node{Kind: api.Record, Fields: []api.Field{{Name: "a"}, {Name: "b"}}}), api.ErrTwice},
		{"parts in order: missing, twice", of(empty, choiceOf(0, 7, 0)), api.ErrMissing},
		{"parts in order: twice, missing", of(empty, choiceOf(0, 0, 7)), api.ErrTwice},
		{"a name of none", named(empties[:1], 1), api.ErrMissing},
		{"a name below 0", named(empties[:1], -1), api.ErrMissing},
		{"a name far off", named(empties[:1], 0, math.MaxInt), api.ErrMissing},
		{"a name of a part", named([]api.Node{empty, choiceOf(0)}, 1, 0), api.ErrTwice},
		{"two names of one", named(empties[:1], 0, 0), api.ErrTwice},
		{"names in order: missing, twice", named(empties[:1], 7, 0, 0), api.ErrMissing},
		{"names in order: twice, missing", named(empties[:1], 0, 0, 7), api.ErrTwice},
		{"names ahead of what is left", named(empties[:2], 0, 0), api.ErrTwice},
		{"parts ahead of names", of(empty, empty, choiceOf(0, 0)), api.ErrTwice},
		{"one is left", named(empties[:2], 1), api.ErrMissing},
		{"the last one is left", named([]api.Node{empty, choiceOf(0), empty}, 1), api.ErrMissing},
	}
	for _, w := range wants {
		if e := spec.Check(w.spec); e != w.want {
			t.Errorf("%s: %v, want %v", w.name, e, w.want)
		}
	}
}

func TestCheckOfSamples(t *testing.T) {
	m := sample.Maker{Seed: 1}
	for range 300 {
		s := m.Spec(4)
		if e := spec.Check(s); e != api.OK {
			t.Fatalf("%+v: %v", s, e)
		}
		at := m.UpTo(len(s.Nodes))
		cut := spec.Clone(s)
		cut.Nodes = slices.Delete(cut.Nodes, at, at+1)
		if e := spec.Check(cut); e == api.OK { // one is left, or one isn't there
			t.Errorf("without %d: %+v", at, cut)
		}
		more := spec.Clone(s)
		more.Nodes = append(more.Nodes, empty)
		if e := spec.Check(more); e != api.ErrMissing && len(more.Nodes) <= spec.MaxNodes {
			t.Errorf("with one that has no name: %v", e)
		}
	}
}

// P11.3

func TestBuilder(t *testing.T) {
	var b spec.Builder
	if s, e := b.Spec(); e != api.ErrLong || !reflect.DeepEqual(s, api.Spec{}) {
		t.Errorf("of nothing: %+v, %v", s, e)
	}
	for want, n := range []api.Node{empty, fixed(1, 2, 3), choiceOf(1, 0)} {
		if at, e := b.Add(n); at != want || e != api.OK {
			t.Errorf("Add: %d, %v", at, e)
		}
	}
	if s, e := b.Spec(); e != api.ErrLong || !reflect.DeepEqual(s, api.Spec{}) {
		t.Errorf("without a name: %+v, %v", s, e)
	}
	if e := b.Name("main", 2); e != api.OK {
		t.Errorf("Name: %v", e)
	}
	want := of(empty, fixed(1, 2, 3), choiceOf(1, 0))
	for range 2 {
		if s, e := b.Spec(); e != api.OK || !reflect.DeepEqual(s, want) {
			t.Errorf("Spec: %+v, %v", s, e)
		}
	}
	if at, e := b.Add(api.Node{}); at != 3 || e != api.OK { // whatever it is
		t.Errorf("Add of a wrong one: %d, %v", at, e)
	}
	if s, e := b.Spec(); e != api.ErrForm || !reflect.DeepEqual(s, api.Spec{}) {
		t.Errorf("with a wrong one: %+v, %v", s, e)
	}
	var c spec.Builder
	if at, e := c.Add(empty); at != 0 || e != api.OK || c.Name("", -7) != api.OK || c.Name("", 0) != api.OK {
		t.Error("another one")
	}
	if s, e := c.Spec(); e != api.ErrMissing || !reflect.DeepEqual(s, api.Spec{}) {
		t.Errorf("a name of no type: %+v, %v", s, e)
	}
}

func TestBuilderIsFull(t *testing.T) {
	var b spec.Builder
	for want := range spec.MaxNodes {
		n := empty
		if want > 0 {
			n = api.Node{Kind: api.Many, Kids: []int{want - 1}}
		}
		if at, e := b.Add(n); at != want || e != api.OK {
			t.Fatalf("Add of %d: %d, %v", want, at, e)
		}
	}
	if e := b.Name("main", spec.MaxNodes-1); e != api.OK {
		t.Error(e)
	}
	for range 2 {
		if at, e := b.Add(empty); at != 0 || e != api.ErrLong {
			t.Errorf("Add of one more: %d, %v", at, e)
		}
		if s, e := b.Spec(); e != api.OK || len(s.Nodes) != spec.MaxNodes || len(s.Defs) != 1 { // P2: nothing was changed
			t.Errorf("Spec: %d, %v", len(s.Nodes), e)
		}
	}
	var c spec.Builder
	for at := range spec.MaxDefs {
		c.Add(empty)
		if e := c.Name("a", at); e != api.OK {
			t.Errorf("Name %d: %v", at, e)
		}
	}
	for range 2 {
		if e := c.Name("b", 0); e != api.ErrLong {
			t.Errorf("one name more: %v", e)
		}
		if s, e := c.Spec(); e != api.OK || len(s.Defs) != spec.MaxDefs {
			t.Errorf("Spec: %d, %v", len(s.Defs), e)
		}
	}
}

// What is handed in isn't kept, and what is answered isn't shared.
func TestBuilderKeepsCopies(t *testing.T) {
	var b spec.Builder
	b.Add(empty)
	b.Add(empty)
	n := choiceOf(1, 0)
	b.Add(n)
	b.Name("main", 2)
	n.Kids[0] = 99
	first, _ := b.Spec()
	if e := spec.Check(first); e != api.OK {
		t.Fatalf("what was handed in is kept: %v", e)
	}
	spoil(first)
	if again, e := b.Spec(); e != api.OK || !reflect.DeepEqual(again, of(empty, empty, choiceOf(1, 0))) {
		t.Errorf("an answer is shared: %+v, %v", again, e)
	}
}

// spoil: all that a specification's lists hold is another, their spare room too.
func spoil(s api.Spec) {
	nodes, defs := s.Nodes[:cap(s.Nodes)], s.Defs[:cap(s.Defs)]
	for i := range nodes {
		n := nodes[i]
		fill(n.Kids, 99)
		fill(n.Last, true)
		fill(n.Fields, api.Field{Name: "spoilt"})
		fill(n.Cases, api.Case{Value: 99})
		nodes[i] = api.Node{Kind: 99}
	}
	fill(defs, api.Def{Name: "spoilt"})
}

// fill: a list is full of one thing.
func fill[T any](list []T, thing T) {
	list = list[:cap(list)]
	for i := range list {
		list[i] = thing
	}
}

// sampled: the specification of a seed.
func sampled(seed int, deep int) api.Spec {
	m := sample.Maker{Seed: uint32(seed) * 7919}
	return m.Spec(deep)
}

func TestClone(t *testing.T) {
	for seed := range 100 {
		s, kept := sampled(seed, 3), sampled(seed, 3)
		got := spec.Clone(s)
		if !reflect.DeepEqual(got, kept) {
			t.Fatalf("Clone of %+v: %+v", s, got)
		}
		spoil(got)
		if !reflect.DeepEqual(s, kept) {
			t.Fatalf("Clone shares: %+v, was %+v", s, kept)
		}
	}
	if got := spec.Clone(api.Spec{}); len(got.Nodes) != 0 || len(got.Defs) != 0 {
		t.Errorf("Clone of nothing: %+v", got)
	}
	wrong := named([]api.Node{{Kind: -1, Kids: []int{-5}}}, 99)
	if got := spec.Clone(wrong); !reflect.DeepEqual(got, wrong) {
		t.Errorf("Clone of a wrong one: %+v", got)
	}
}

// P11.4

func TestDefAndRoot(t *testing.T) {
	s := api.Spec{Defs: []api.Def{{Name: "a", Type: 3}, {Name: "b", Type: -7}, {Name: "a", Type: 5}, {Name: "", Type: 9}}}
	for name, want := range map[string]int{"a": 3, "b": -7, "": 9, "c": -1, "A": -1, "a ": -1} {
		if got := spec.Def(s, name); got != want {
			t.Errorf("Def of %q: %d", name, got)
		}
	}
	if got := spec.Root(s); got != 9 {
		t.Errorf("Root: %d", got)
	}
	s.Defs = s.Defs[:3]
	if got := spec.Root(s); got != 5 { // the last one's, not that of the first one of the name
		t.Errorf("Root: %d", got)
	}
	if spec.Root(api.Spec{}) != -1 || spec.Def(api.Spec{}, "") != -1 || spec.Root(api.Spec{Nodes: []api.Node{empty}}) != -1 {
		t.Error("of nothing")
	}
}

func TestSame(t *testing.T) {
	m := sample.Maker{Seed: 3}
	moved := 0
	for seed := range 200 {
		s := sampled(seed, 3)
		other := m.Shuffled(s)
		if !reflect.DeepEqual(s, other) {
			moved++
		}
		if e := spec.Check(other); e != api.OK {
			t.Fatalf("shuffled: %v", e)
		}
		if !spec.Same(s, s) || !spec.Same(s, other) || !spec.Same(other, s) {
			t.Fatalf("Same of %+v, %+v", s, other)
		}
		next := sampled(seed+1, 3)
		if got := spec.Same(s, next); got != spec.Same(next, s) || got && len(s.Nodes) != len(next.Nodes) {
			t.Errorf("Same of %+v, %+v: %t", s, next, got)
		}
	}
	if moved < 50 {
		t.Errorf("only %d were moved", moved)
	}
}

// whole: a specification around a type, whose parts are all others.
func whole(n api.Node) api.Spec {
	n = spec.Own(n)
	var s api.Spec
	add := func() int {
		s.Nodes = append(s.Nodes, api.Node{Kind: api.Blob, Expr: api.Expr{Add: uint64(len(s.Nodes))}})
		return len(s.Nodes) - 1
	}
	for i := range n.Kids {
		n.Kids[i] = add()
	}
	for i := range n.Fields {
		n.Fields[i].Type = add()
	}
	for i := range n.Cases {
		n.Cases[i].Type = add()
	}
	if n.Kind == api.Switch && n.Else >= 0 {
		n.Else = add()
	}
	s.Nodes = append(s.Nodes, n, api.Node{Kind: api.Many, Kids: []int{len(s.Nodes)}})
	s.Defs = []api.Def{{Name: "main", Type: len(s.Nodes) - 1}}
	return s
}

// different: types of which no two say the same.
func different() []api.Node {
	little := fixed(2, 0, 9)
	little.Little = true
	fields := func(list ...api.Field) api.Node { return api.Node{Kind: api.Record, Fields: list} }
	expr := func(kind int, x api.Expr) api.Node {
		n := api.Node{Kind: kind, Expr: x}
		if kind != api.Blob {
			n.Kids = []int{0}
		}
		return n
	}
	by := func(reg string, mod uint64, other int, values ...uint64) api.Node {
		n := api.Node{Kind: api.Switch, Reg: reg, Mod: mod, Else: other}
		for _, v := range values {
			n.Cases = append(n.Cases, api.Case{Value: v})
		}
		return n
	}
	link := func(last ...bool) api.Node {
		return api.Node{Kind: api.Chain, Kids: make([]int, len(last)), Last: last}
	}
	return []api.Node{
		empty, fixed(1, 0, 9), fixed(2, 0, 9), fixed(2, 1, 9), fixed(2, 0, 8), little,
		varint(0, 9), varint(1, 9), varint(0, 8), {Kind: api.Varint, Max: 9, Zig: true}, {Kind: api.Varint, Max: 9, Lenient: true},
		{Kind: api.Token, Text: "a"}, {Kind: api.Token, Text: "(a)"}, {Kind: api.Use, Text: "a"}, {Kind: api.Use, Text: "b"},
		expr(api.Blob, api.Expr{}), expr(api.Blob, api.Expr{Add: 1}), expr(api.Blob, api.Expr{Reg: "n", Mul: 1}),
		expr(api.Blob, api.Expr{Reg: "m", Mul: 1}), expr(api.Blob, api.Expr{Reg: "n", Mul: 2}), expr(api.Blob, api.Expr{Reg: "n", Mul: 1, Add: 1}),
		expr(api.Times, api.Expr{}), expr(api.Times, api.Expr{Add: 1}), expr(api.Within, api.Expr{}), expr(api.Within, api.Expr{Reg: "n", Mul: 1}),
		around(api.Many), choice(1), choice(2), choice(3), link(false), link(true), link(true, false), link(false, true), link(true, true),
		fields(api.Field{}), fields(api.Field{Name: "f"}), fields(api.Field{Name: "g"}), fields(api.Field{Name: "f"}, api.Field{Name: "g"}),
		fields(api.Field{Name: "g"}, api.Field{Name: "f"}), fields(api.Field{Name: "f", Derive: api.SizeOf}), fields(api.Field{Name: "f", Derive: api.CountOf}),
		fields(api.Field{Name: "f", Derive: api.SizeOf, Of: "g"}), fields(api.Field{Name: "f", Derive: api.SumOf, Of: "g"}),
		fields(api.Field{Name: "f", Derive: api.SumOf, Of: "g", To: "h"}), fields(api.Field{Name: "f", Derive: api.SumOf, Of: "g", To: "i"}),
		by("n", 0, -1, 1), by("m", 0, -1, 1), by("n", 2, -1, 1), by("n", 0, 0, 1), by("n", 0, -1, 2), by("n", 0, -1, 1, 2), by("n", 0, -1, 2, 1), by("n", 0, 0, 1, 2),
	}
}

func TestSameTellsApart(t *testing.T) {
	list := different()
	for i, a := range list {
		x := whole(a)
		if e := spec.Check(x); e != api.OK {
			t.Fatalf("%+v: %v", a, e)
		}
		for j, b := range list {
			if got := spec.Same(x, whole(b)); got != (i == j) {
				t.Errorf("Same of %+v, %+v: %t", a, b, got)
			}
		}
		for at := range x.Nodes {
			y := spec.Clone(x)
			if n := &y.Nodes[at]; n.Kind == api.Blob {
				n.Expr.Add += 100 // a part of it, however deep
				if spec.Same(x, y) || spec.Same(y, x) {
					t.Errorf("another part %d of %+v", at, a)
				}
			}
		}
	}
}

func TestSameNames(t *testing.T) {
	nodes := []api.Node{fixed(1, 0, 1), fixed(1, 0, 2)}
	s := named(nodes, 0, 1)
	wants := []struct {
		other api.Spec
		want  bool
	}{
		{named(nodes, 0, 1), true},
		{named([]api.Node{nodes[1], nodes[0]}, 1, 0), true},
		{named(nodes, 1, 0), false},
		{api.Spec{Nodes: nodes, Defs: []api.Def{{Name: "b", Type: 1}, {Name: "a", Type: 0}}}, false},
		{api.Spec{Nodes: nodes, Defs: []api.Def{{Name: "a", Type: 0}, {Name: "c", Type: 1}}}, false},
		{named(nodes[:1], 0), false},
		{named(append(nodes[:2:2], empty), 0, 1, 2), false},
	}
	for i, w := range wants {
		if spec.Same(s, w.other) != w.want || spec.Same(w.other, s) != w.want {
			t.Errorf("Same, %d: want %t", i, w.want)
		}
	}
}

// walk: the types that Each hands on, up to a most; and what it answers.
func walk(s api.Spec, at, most int) ([]int, bool) {
	var out []int
	ok := spec.Each(s, at, func(at int) bool {
		out = append(out, at)
		return len(out) < most
	})
	return out, ok
}

// front: a type and all of which it is made, from the front on.
func front(s api.Spec, at int) []int {
	out := []int{at}
	for _, part := range spec.Kids(s.Nodes[at]) {
		out = append(out, front(s, part)...)
	}
	return out
}

func TestEach(t *testing.T) {
	m := sample.Maker{Seed: 4}
	for seed := range 100 {
		s := m.Shuffled(sampled(seed, 3))
		for at := range s.Nodes {
			want := front(s, at)
			if got, ok := walk(s, at, math.MaxInt); !slices.Equal(got, want) || !ok {
				t.Fatalf("Each of %d of %+v: %v, %t, want %v", at, s, got, ok, want)
			}
			for most := 1; most <= len(want); most += 1 + len(want)/5 {
				if got, ok := walk(s, at, most); !slices.Equal(got, want[:most]) || ok {
					t.Fatalf("Each of %d up to %d: %v, %t, want %v", at, most, got, ok, want[:most])
				}
			}
		}
	}
	s := of(empty, empty, empty, empty, api.Node{Kind: api.Switch, Reg: "n", Cases: []api.Case{{Type: 2}, {Type: 0}}, Else: 3}, choiceOf(4, 1))
	if got, ok := walk(s, 5, math.MaxInt); !slices.Equal(got, []int{5, 4, 2, 0, 3, 1}) || !ok {
		t.Errorf("Each: %v, %t", got, ok)
	}
	if got, ok := walk(s, 5, 3); !slices.Equal(got, []int{5, 4, 2}) || ok {
		t.Errorf("Each up to three: %v, %t", got, ok)
	}
	for _, at := range []int{-1, 6, math.MinInt, math.MaxInt} {
		if got, _ := walk(s, at, math.MaxInt); len(got) != 0 {
			t.Errorf("Each of %d: %v", at, got)
		}
	}
	if got, ok := walk(sample.Nested(2048), 2047, math.MaxInt); len(got) != 2048 || !ok {
		t.Errorf("Each of many: %d, %t", len(got), ok)
	}
}

// P1, P2

func TestWrongOnesEndToo(t *testing.T) {
	list := sample.Wrongs()
	for i, s := range list {
		kept := spec.Clone(s)
		spec.Same(s, s)
		spec.Same(s, list[(i+1)%len(list)])
		spec.Def(s, "a")
		root := spec.Root(s)
		for at := -3; at < 10; at++ {
			walk(s, at, math.MaxInt)
		}
		walk(s, root, math.MaxInt)
		if e := spec.Check(s); e == api.OK && !spec.Same(s, spec.Clone(s)) {
			t.Errorf("%+v", s)
		}
		var b spec.Builder
		for _, n := range s.Nodes {
			b.Add(n)
		}
		for _, d := range s.Defs {
			b.Name(d.Name, d.Type)
		}
		if got, e := b.Spec(); e != spec.Check(s) && len(s.Nodes) <= spec.MaxNodes || e != api.OK && !reflect.DeepEqual(got, api.Spec{}) {
			t.Errorf("Spec: %+v, %v", got, e)
		}
		if !reflect.DeepEqual(s, kept) {
			t.Errorf("what was handed in was changed: %+v", s)
		}
	}
	spec.Each(of(empty), 0, nil) // nobody asks
}
