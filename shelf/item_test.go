package shelf_test

import (
	"bytes"
	"reflect"
	"slices"
	"strings"
	"sync"
	"testing"

	"guipure/api"
	"guipure/cost"
	"guipure/emit"
	"guipure/lex"
	"guipure/lower"
	"guipure/parse"
	"guipure/sample"
	"guipure/scan"
	"guipure/shelf"
	"guipure/show"
	"guipure/tree"
)

// item: one of a text.
func item(t *testing.T, text string) *shelf.Item {
	t.Helper()
	s := shelf.New()
	if e := s.Text("a", text); e != api.OK {
		t.Fatal(e)
	}
	return s.Get("a")
}

// itemOf: one of a specification.
func itemOf(t *testing.T, x api.Spec) *shelf.Item {
	t.Helper()
	s := shelf.New()
	if e := s.Spec("a", x); e != api.OK {
		t.Fatal(e)
	}
	return s.Get("a")
}

// both: one of a text, and one of its specification.
func both(t *testing.T, text string) []*shelf.Item {
	t.Helper()
	return []*shelf.Item{item(t, text), itemOf(t, read(t, text))}
}

// wantMade tells if one of the calls wasn't made so often, or the item not made so often.
func wantMade(t *testing.T, x *shelf.Item, calls, made int) {
	t.Helper()
	if gotCalls, gotMade := x.Made(); gotCalls != calls || gotMade != made {
		t.Errorf("Made: %d and %d, want %d and %d", gotCalls, gotMade, calls, made)
	}
}

// asking: the calls that make an item, each with something to ask.
func asking() map[string]func(x *shelf.Item) api.Fault {
	return map[string]func(x *shelf.Item) api.Fault{
		"Check": (*shelf.Item).Check,
		"Scan": func(x *shelf.Item) api.Fault {
			_, f := x.Scan([]byte{1, 7}, sample.Ample())
			return f
		},
		"Write": func(x *shelf.Item) api.Fault {
			_, _, f := x.Write(tree.Of(tree.Blank(), tree.Data(7)), 9)
			return f
		},
		"Bound": func(x *shelf.Item) api.Fault {
			_, f := x.Bound()
			return f
		},
		"Source": func(x *shelf.Item) api.Fault {
			x.Source()
			return api.Fault{}
		},
	}
}

// P26.2, P26.3

// Whichever call is the first one makes it; no other one does.
func TestMade(t *testing.T) {
	for name, ask := range asking() {
		for _, x := range both(t, right) {
			wantMade(t, x, 0, 0)
			for i := range 3 {
				if f := ask(x); f != (api.Fault{}) {
					t.Errorf("%s: %v", name, f)
				}
				wantMade(t, x, i+1, 1)
			}
			for _, other := range asking() {
				other(x)
			}
			wantMade(t, x, 8, 1)
		}
	}
}

func TestNothingElseMakes(t *testing.T) {
	s := shelf.New()
	s.Text("a", right)
	s.Spec("b", read(t, right))
	s.Text("c", "no text of a specification")
	s.Text("d", "")
	s.Text("a", "there is one") // which is refused
	s.Drop("d")
	r, f := lower.Make(read(t, right))
	if f.Code != api.OK {
		t.Fatal(f)
	}
	for _, name := range s.Names() {
		x := s.Get(name)
		x.Counts()
		x.Feed(r, sample.Ample(), []byte{1, 7})
		x.Meter.Scan(r, []byte{1, 7}, sample.Ample())
		x.Reset()
		x.Made()
		wantMade(t, x, 0, 0)
		x.Check()
		wantMade(t, x, 1, 1)
		wantMade(t, s.Get(name), 1, 1)
	}
	x := item(t, right)
	x.Check()
	y := item(t, right)
	wantMade(t, x, 1, 1)
	wantMade(t, y, 0, 0)
}

// wantFault tells if one of an item's calls answers something else than a fault.
func wantFault(t *testing.T, x *shelf.Item, want api.Fault) {
	t.Helper()
	if f := x.Check(); f != want {
		t.Errorf("Check: %v, want %v", f, want)
	}
	if got, f := x.Scan([]byte{1, 7}, sample.Ample()); f != want || !reflect.DeepEqual(got, api.Tree{}) {
		t.Errorf("Scan: %s, %v, want %v", tree.Text(got), f, want)
	}
	if b, got, f := x.Write(tree.Num(1), -1); f != want || len(b) != 0 || !reflect.DeepEqual(got, api.Tree{}) {
		t.Errorf("Write: %x, %s, %v, want %v", b, tree.Text(got), f, want)
	}
	if got, f := x.Bound(); f != want || got != (cost.Bound{}) {
		t.Errorf("Bound: %+v, %v, want %v", got, f, want)
	}
	if got := x.Source(); got != "" {
		t.Errorf("Source: %s", got)
	}
	if c := x.Counts(); c != (cost.Counts{}) { // nothing was read
		t.Errorf("Counts: %+v", c)
	}
}

func TestFaults(t *testing.T) {
	for _, text := range []string{
		"", "main = u8", "main = u16be 5..70000;", "main = 5$;", "main = /a;", "u8 = u8;", strings.Repeat("#", lex.MaxText+1),
	} {
		_, want := parse.Parse(text)
		x := item(t, text)
		wantFault(t, x, want)
		wantMade(t, x, 5, 1)
		if want.Code == api.OK {
			t.Errorf("%.50q is right", text)
		}
	}
	for _, text := range sample.Refused() {
		_, want := lower.Make(read(t, text))
		for _, x := range both(t, text) {
			wantFault(t, x, want)
			wantFault(t, x, want)
			wantMade(t, x, 10, 1)
		}
		if want.Code == api.OK {
			t.Errorf("%s is accepted", text)
		}
	}
	for _, s := range sample.Wrongs() {
		if _, want := lower.Make(s); want.Code != api.OK {
			wantFault(t, itemOf(t, s), want)
		}
	}
}

// What is wrong by layer 12 alone is a text's: specifications that no text tells are right as they are.
func TestSpecsWithoutTexts(t *testing.T) {
	s := read(t, "main = u8;")
	for len(s.Nodes) < 100 { // deeper than layer 12 lets be
		s.Nodes = append(s.Nodes, api.Node{Kind: api.Within, Expr: api.Expr{Add: 1}, Kids: []int{len(s.Nodes) - 1}})
	}
	s.Defs[0].Type = len(s.Nodes) - 1
	x := itemOf(t, s)
	if f := x.Check(); f != (api.Fault{}) || x.Source() != show.Text(s) {
		t.Errorf("%v, %s", f, x.Source())
	}
	if f := item(t, x.Source()).Check(); f.Code != api.ErrDeep {
		t.Error(f)
	}
}

// wantItem tells if an item's calls answer something else than the layers do whose calls they are.
func wantItem(t *testing.T, m *sample.Maker, x *shelf.Item, s api.Spec, many int) {
	t.Helper()
	r, _ := lower.Make(s)
	w, _ := emit.New(s)
	bound, _ := cost.Of(s)
	if got, f := x.Bound(); f != (api.Fault{}) || got != bound {
		t.Fatalf("Bound of %s: %+v, %v, want %+v", show.Text(s), got, f, bound)
	}
	if got := x.Source(); got != show.Text(s) {
		t.Fatalf("Source: %s, want %s", got, show.Text(s))
	}
	var meter cost.Meter
	for _, p := range m.Pairs(s, many) {
		for _, b := range [][]byte{p.Bytes, m.Garbled(p.Bytes)} {
			caps := m.Caps(p)
			want, fault := meter.Scan(r, b, caps)
			got, f := x.Scan(b, caps)
			if _, _, alone := scan.Scan(r, b, caps); f != fault || f != alone || !tree.Same(got, want) {
				t.Fatalf("Scan of %x by\n%s: %s, %v, want %s, %v", b, show.Text(s), tree.Text(got), f, tree.Text(want), fault)
			}
			want, fault = meter.Feed(r, caps, b, b)
			if got, f := x.Feed(r, caps, b, b); f != fault || !tree.Same(got, want) {
				t.Fatalf("Feed of %x by\n%s: %s, %v, want %s, %v", b, show.Text(s), tree.Text(got), f, tree.Text(want), fault)
			}
		}
		for _, y := range []api.Tree{p.Tree, m.Spoilt(p.Tree)} {
			most := len(p.Bytes) + 1 - m.UpTo(3)
			b, want, fault := w.Write(y, most)
			if c, got, f := x.Write(y, most); f != fault || !bytes.Equal(c, b) || !tree.Same(got, want) {
				t.Fatalf("Write of %s by\n%s: %x, %s, %v, want %x, %s, %v", tree.Text(y), show.Text(s), c, tree.Text(got), f, b, tree.Text(want), fault)
			}
		}
	}
	if got, want := x.Counts(), meter.Counts(); got != want {
		t.Fatalf("Counts of %s: %+v, want %+v", show.Text(s), got, want)
	}
	if got := x.Reset(); got != meter.Counts() || x.Counts() != (cost.Counts{}) {
		t.Fatalf("Reset: %+v, %+v", got, x.Counts())
	}
}

func TestSamples(t *testing.T) {
	m := &sample.Maker{Seed: 91}
	for i := range 250 {
		s := m.Shuffled(m.Accepted(1 + i%5))
		if len(s.Nodes) > 150 {
			continue
		}
		x := itemOf(t, s)
		wantItem(t, m, x, s, 5)
		_, made := x.Made()
		if made != 1 {
			t.Errorf("made %d times", made)
		}
	}
	for _, text := range sample.Texts() {
		for _, x := range both(t, text) {
			wantItem(t, m, x, read(t, text), 60)
		}
	}
}

// What is answered is new memory.
func TestAnswersAreTheirOwn(t *testing.T) {
	x := item(t, "main = { n: u8 = size(d); d: bytes[n]; l: many /x[a-z];/; };")
	in := tree.Of(tree.Blank(), tree.Data(7, 8), tree.Of(tree.Data([]byte("xa;")...)))
	b := []byte("\x02\x07\x08xa;")
	for range 3 {
		out, filled, f := x.Write(in, 99)
		got, g := x.Scan(b, sample.Ample())
		if f != (api.Fault{}) || g != f || !bytes.Equal(out, b) || !tree.Same(filled, got) || tree.Text(in) != "0(_0,0:0708,0(0:78613b))" {
			t.Fatalf("%x, %s, %v, %s, %v", out, tree.Text(filled), f, tree.Text(got), g)
		}
		sample.Spoil(filled)
		sample.Spoil(got)
		clear(out[:cap(out)])
	}
}

// Several goroutines at the same time make it once.
func TestMadeByMany(t *testing.T) {
	const many = 24
	for _, text := range []string{sample.Texts()[4], "main = many bytes[0];", "main = u8"} {
		x := item(t, text)
		faults := make([]api.Fault, many)
		sources := make([]string, many)
		var group sync.WaitGroup
		for i := range many {
			group.Go(func() {
				sources[i] = x.Source()
				faults[i] = x.Check()
				x.Scan([]byte{1, 2, 3}, sample.Ample())
				x.Made()
			})
		}
		group.Wait()
		wantMade(t, x, 3*many, 1)
		if slices.ContainsFunc(faults, func(f api.Fault) bool { return f != faults[0] }) || slices.ContainsFunc(sources, func(s string) bool { return s != sources[0] }) {
			t.Errorf("%v, %q", faults, sources)
		}
		want := uint64(many)
		if faults[0].Code != api.OK {
			want = 0
		}
		if c := x.Counts(); c.Scans != want || c.Bytes != 3*want {
			t.Errorf("%+v", c)
		}
	}
}

func TestExamples(t *testing.T) {
	x := item(t, "main = u8;")
	if f := x.Check(); f != (api.Fault{}) {
		t.Error(f)
	}
	if got, f := x.Scan([]byte{7}, sample.Ample()); f != (api.Fault{}) || tree.Text(got) != "7" {
		t.Errorf("%s, %v", tree.Text(got), f)
	}
	wantMade(t, x, 2, 1)
}
