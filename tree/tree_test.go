package tree_test

import (
	"math"
	"reflect"
	"slices"
	"testing"

	"guipure/api"
	"guipure/sample"
	"guipure/tree"
)

// read: the tree of a text.
func read(t *testing.T, text string) api.Tree {
	t.Helper()
	x, e := tree.Parse(text)
	if e != api.OK {
		t.Fatalf("Parse of %.200q: %v", text, e)
	}
	return x
}

// kids: a tree of parts, put together by hand.
func kids(list ...api.Tree) api.Tree { return api.Tree{Kids: list} }

// num, data: likewise of a number, and of bytes.
func num(n uint64) api.Tree { return api.Tree{Num: n} }

func data(b ...byte) api.Tree { return api.Tree{Data: b} }

// samples: trees of all sorts.
func samples(many int) []api.Tree {
	m := sample.Maker{Seed: 21}
	var out []api.Tree
	for i := range many {
		out = append(out, m.Tree(i%5))
	}
	return out
}

// list: a tree's parts, each with its way, found without layer 17, from the front on.
func list(t api.Tree, way []int) []place {
	out := []place{{slices.Clone(way), t}}
	for i, kid := range t.Kids {
		out = append(out, list(kid, append(way, i))...)
	}
	return out
}

// place is a part, and the way to it.
type place struct {
	way  []int
	part api.Tree
}

// P17.1

func TestSame(t *testing.T) {
	blank := api.Tree{Blank: true}
	all := []api.Tree{
		{}, blank, num(1), num(math.MaxUint64), num(1 << 63), {Num: 1, Blank: true}, data(0), data(0, 0), data(1), data(0, 1), data(1, 0),
		kids(num(0)), kids(num(1)), kids(blank), kids(num(0), num(0)), kids(num(1), num(0)), kids(num(0), num(1)), kids(kids(num(0))),
		kids(data(0)), {Data: []byte{0}, Kids: []api.Tree{{}}}, {Num: 1, Data: []byte{1}}, {Num: 1, Kids: []api.Tree{{}}},
		kids(kids(num(0)), num(0)), kids(num(0), kids(num(0))), kids(kids(num(0), num(0))),
	}
	for i, a := range all {
		for j, b := range all {
			if got := tree.Same(a, b); got != (i == j) {
				t.Errorf("Same of %+v and %+v: %v", a, b, got)
			}
		}
	}
	if !tree.Same(api.Tree{Data: []byte{}, Kids: []api.Tree{}}, api.Tree{}) { // none is none
		t.Error("empty lists aren't the same as none")
	}
}

func TestSameOfSamples(t *testing.T) {
	all := samples(300)
	for i, a := range all {
		for j := range 40 {
			b := all[(i+j)%len(all)]
			if got := tree.Same(a, b); got != reflect.DeepEqual(a, b) {
				t.Fatalf("%+v and %+v: %v", a, b, got)
			}
		}
		for _, p := range list(a, nil) { // one part differs
			other := tree.Clone(a)
			at := &other
			for _, i := range p.way {
				at = &at.Kids[i]
			}
			at.Blank = !at.Blank
			if tree.Same(a, other) {
				t.Fatalf("%+v and %+v are the same", a, other)
			}
		}
	}
}

func TestPartsAndDepth(t *testing.T) {
	for text, want := range map[string][2]int{
		"0":                     {1, 1},
		"5:6162":                {1, 1},
		"0(0)":                  {2, 2},
		"0(0,0,0)":              {4, 2},
		"0(0(0),0)":             {4, 3},
		"0(0,0(0))":             {4, 3},
		"0(5,_0,0(0:6162))":     {5, 3},
		"0(0(0(0)),0(0,0),0,0)": {9, 4},
	} {
		x := read(t, text)
		if got := [2]int{tree.Parts(x), tree.Depth(x)}; got != want {
			t.Errorf("%s: %v, want %v", text, got, want)
		}
	}
	if tree.Parts(api.Tree{}) != 1 || tree.Depth(api.Tree{}) != 1 {
		t.Error("of a tree of nothing")
	}
	for _, x := range samples(300) {
		all := list(x, nil)
		most := 0
		for _, p := range all {
			most = max(most, len(p.way)+1)
		}
		if tree.Parts(x) != len(all) || tree.Depth(x) != most {
			t.Fatalf("%+v: %d, %d, want %d, %d", x, tree.Parts(x), tree.Depth(x), len(all), most)
		}
	}
}

func TestEach(t *testing.T) {
	for _, x := range samples(200) {
		all := list(x, nil)
		for stop := range len(all) + 1 {
			met := 0
			got := tree.Each(x, func(part api.Tree) bool {
				if met >= len(all) || !reflect.DeepEqual(part, all[met].part) {
					t.Fatalf("%+v: the part %d is %+v", x, met, part)
				}
				met++
				return met <= stop
			})
			want := min(stop+1, len(all)) // the one that isn't wanted any more is met, too
			if met != want || got != (stop >= len(all)) {
				t.Fatalf("%+v, up to %d: %v, behind %d", x, stop, got, met)
			}
		}
	}
	if !tree.Each(num(1), nil) {
		t.Error("to nobody")
	}
}

// A tree that is nested very deep, and one that has very many parts.
func TestGreatTrees(t *testing.T) {
	deep := data(7)
	for range 1<<16 - 1 {
		deep = api.Tree{Kids: []api.Tree{deep}}
	}
	wide := api.Tree{Kids: make([]api.Tree, 1<<20)}
	for _, w := range []struct {
		t            api.Tree
		parts, depth int
	}{{deep, 1 << 16, 1 << 16}, {wide, 1<<20 + 1, 2}} {
		met := 0
		all := tree.Each(w.t, func(api.Tree) bool { met++; return true })
		if tree.Parts(w.t) != w.parts || tree.Depth(w.t) != w.depth || met != w.parts || !all || !tree.Same(w.t, tree.Clone(w.t)) {
			t.Errorf("%d, %d, %d", tree.Parts(w.t), tree.Depth(w.t), met)
		}
	}
	way := make([]int, 1<<16-1)
	if x, ok := tree.At(deep, way...); !ok || !tree.Same(x, data(7)) {
		t.Error("At of what is deep")
	}
	if x, ok := tree.Put(deep, num(3), way...); !ok || tree.Same(x, deep) {
		t.Error("Put into what is deep")
	}
	if x, e := tree.Parse(tree.Text(deep)); e != api.ErrDeep || !reflect.DeepEqual(x, api.Tree{}) {
		t.Errorf("what is deep is read: %v", e)
	}
}

// P17.2

func TestAtAndPut(t *testing.T) {
	x := read(t, "0(5,_0,0(0:6162,7(8)))")
	for _, w := range []struct {
		way  []int
		part string
		put  string
	}{
		{nil, "0(5,_0,0(0:6162,7(8)))", "9:00(1)"},
		{[]int{0}, "5", "0(9:00(1),_0,0(0:6162,7(8)))"},
		{[]int{1}, "_0", "0(5,9:00(1),0(0:6162,7(8)))"},
		{[]int{2}, "0(0:6162,7(8))", "0(5,_0,9:00(1))"},
		{[]int{2, 0}, "0:6162", "0(5,_0,0(9:00(1),7(8)))"},
		{[]int{2, 1}, "7(8)", "0(5,_0,0(0:6162,9:00(1)))"},
		{[]int{2, 1, 0}, "8", "0(5,_0,0(0:6162,7(9:00(1))))"},
	} {
		part, ok := tree.At(x, w.way...)
		if !ok || tree.Text(part) != w.part {
			t.Errorf("At of %v: %s, %v", w.way, tree.Text(part), ok)
		}
		put, ok := tree.Put(x, read(t, "9:00(1)"), w.way...)
		if !ok || tree.Text(put) != w.put {
			t.Errorf("Put at %v: %s, %v", w.way, tree.Text(put), ok)
		}
	}
	for _, way := range [][]int{{-1}, {3}, {0, 0}, {1, 0}, {2, 2}, {2, -1}, {2, 1, 1}, {2, 1, 0, 0}, {3, 0}, {-1, 0}, {math.MaxInt}, {math.MinInt}, {2, math.MaxInt}} {
		part, ok := tree.At(x, way...)
		put, yes := tree.Put(x, num(9), way...)
		if ok || yes || !reflect.DeepEqual(part, api.Tree{}) || !reflect.DeepEqual(put, api.Tree{}) {
			t.Errorf("of %v: %+v, %v, %+v, %v", way, part, ok, put, yes)
		}
	}
}

func TestAtAndPutOfSamples(t *testing.T) {
	part := read(t, "77(1,2)")
	for _, x := range samples(200) {
		for _, p := range list(x, nil) {
			got, ok := tree.At(x, p.way...)
			if !ok || !reflect.DeepEqual(got, p.part) {
				t.Fatalf("%+v at %v: %+v, %v", x, p.way, got, ok)
			}
			put, ok := tree.Put(x, part, p.way...)
			there, _ := tree.At(put, p.way...)
			back, _ := tree.Put(put, p.part, p.way...)
			if !ok || !tree.Same(there, part) || !tree.Same(back, x) {
				t.Fatalf("%+v at %v: %+v, %v", x, p.way, put, ok)
			}
		}
	}
}

func TestMaking(t *testing.T) {
	for _, w := range []struct{ got, want api.Tree }{
		{tree.Num(0), api.Tree{}},
		{tree.Num(7), api.Tree{Num: 7}},
		{tree.Num(math.MaxUint64), api.Tree{Num: math.MaxUint64}},
		{tree.Blank(), api.Tree{Blank: true}},
		{tree.Data(), api.Tree{}},
		{tree.Data(0), api.Tree{Data: []byte{0}}},
		{tree.Data('a', 0, 255), api.Tree{Data: []byte{'a', 0, 255}}},
		{tree.Of(), api.Tree{}},
		{tree.Of(tree.Num(1)), api.Tree{Kids: []api.Tree{{Num: 1}}}},
		{tree.Of(tree.Blank(), tree.Of(tree.Data(1)), tree.Num(2)), api.Tree{Kids: []api.Tree{{Blank: true}, {Kids: []api.Tree{{Data: []byte{1}}}}, {Num: 2}}}},
	} {
		if !reflect.DeepEqual(w.got, w.want) {
			t.Errorf("%+v, want %+v", w.got, w.want)
		}
	}
}

// P1, P2

// spoil changes all memory of a tree, its spare room too.
func spoil(t api.Tree) {
	b := t.Data[:cap(t.Data)]
	for i := range b {
		b[i] = 0xee
	}
	all := t.Kids[:cap(t.Kids)]
	for i := range all {
		spoil(all[i])
		all[i] = api.Tree{Num: 0xeeee}
	}
}

// roomy: a tree whose lists have room to spare, in which something stands.
func roomy(t api.Tree) api.Tree {
	if t.Data != nil {
		t.Data = append(slices.Clone(t.Data), 0xaa, 0xbb)[:len(t.Data)]
	}
	var all []api.Tree
	for _, kid := range t.Kids {
		all = append(all, roomy(kid))
	}
	if all != nil {
		t.Kids = append(all, num(0xcc))[:len(all)]
	}
	return t
}

// What is answered shares no memory with what was handed in, and that isn't changed.
func TestAnswersAreTheirOwn(t *testing.T) {
	for _, x := range samples(200) {
		text := tree.Text(x)
		for _, answer := range []func(x api.Tree) api.Tree{
			tree.Clone,
			func(x api.Tree) api.Tree { out, _ := tree.At(x); return out },
			func(x api.Tree) api.Tree { out, _ := tree.At(tree.Of(x), 0); return out },
			func(x api.Tree) api.Tree { out, _ := tree.At(kids(num(1), x), 1); return out },
			func(x api.Tree) api.Tree { out, _ := tree.Put(num(3), x); return out },
			func(x api.Tree) api.Tree { out, _ := tree.Put(x, x); return out },
		} {
			kept := roomy(x)
			out := answer(kept)
			if tree.Text(out) != text {
				t.Fatalf("%s, want %s", tree.Text(out), text)
			}
			spoil(out)
			if !reflect.DeepEqual(kept, roomy(x)) || tree.Text(kept) != text {
				t.Fatalf("%s was changed", text)
			}
			if len(kept.Data) > 0 && kept.Data[:len(kept.Data)+1][len(kept.Data)] != 0xaa {
				t.Fatalf("the spare room of %s was changed", text)
			}
			again := answer(kept)
			spoil(kept)
			if tree.Text(again) != text {
				t.Fatalf("%s shares memory with what was handed in", text)
			}
		}
	}
}

func TestListsAreTheirOwn(t *testing.T) {
	b := []byte{1, 2, 3, 9}
	list := []api.Tree{tree.Num(1), tree.Data(b[:3]...), tree.Num(9)}
	x, y := tree.Data(b[:3]...), tree.Of(list[:2]...)
	z, _ := tree.Put(y, y, 0)
	b[0], list[0].Num, list[1].Data[0] = 7, 7, 7
	if tree.Text(x) != "0:010203" || tree.Text(y) != "0(1,0:010203)" || tree.Text(z) != "0(0(1,0:010203),0:010203)" {
		t.Errorf("%s, %s, %s", tree.Text(x), tree.Text(y), tree.Text(z))
	}
	spoil(x)
	spoil(y)
	if b[3] != 9 || list[2].Num != 9 || tree.Text(z) != "0(0(1,0:010203),0:010203)" {
		t.Error("spare room is shared")
	}
	twice := tree.Of(z, z)
	spoil(twice.Kids[0])
	if tree.Text(twice.Kids[1]) != tree.Text(z) {
		t.Error("two parts share memory")
	}
}
