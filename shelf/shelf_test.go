package shelf_test

import (
	"fmt"
	"slices"
	"strings"
	"testing"

	"guipure/api"
	"guipure/parse"
	"guipure/sample"
	"guipure/shelf"
	"guipure/spec"
)

// right is the text of a specification that is accepted.
const right = "main = { n: u8 1..9 = size(d); d: bytes[n]; };"

// read: the specification of a text.
func read(t *testing.T, text string) api.Spec {
	t.Helper()
	s, f := parse.Parse(text)
	if f.Code != api.OK {
		t.Fatalf("Parse of %.200q: %v", text, f)
	}
	return s
}

// bench is a shelf, and what must stand on it.
type bench struct {
	*shelf.Shelf
	*testing.T
	names []string
	items map[string]*shelf.Item
	turns int
}

// empty: one without items.
func empty(t *testing.T) *bench {
	return &bench{Shelf: shelf.New(), T: t, items: map[string]*shelf.Item{}}
}

// look tells if something else stands there.
func (b *bench) look() {
	b.Helper()
	if got := b.Names(); !slices.Equal(got, b.names) {
		b.Fatalf("%q, want %q", got, b.names)
	}
	for name, x := range b.items {
		if got := b.Get(name); got != x {
			b.Fatalf("%q is another one", name)
		}
	}
}

// put: an item more, of a text or of a specification by turns, if that may be.
func (b *bench) put(name string, want api.Errno) {
	b.Helper()
	b.turns++
	call, put := "Text", func() api.Errno { return b.Text(name, right) }
	if b.turns%2 == 0 {
		call, put = "Spec", func() api.Errno { return b.Spec(name, read(b.T, right)) }
	}
	if e := put(); e != want {
		b.Fatalf("%s of %q: %v, want %v", call, name, e, want)
	}
	if want == api.OK {
		b.names = append(b.names, name)
		b.items[name] = b.Get(name)
		if b.items[name] == nil {
			b.Fatalf("%q isn't there", name)
		}
	}
	b.look()
}

// drop: an item is no more.
func (b *bench) drop(name string, want api.Errno) {
	b.Helper()
	if e := b.Drop(name); e != want {
		b.Fatalf("Drop of %q: %v, want %v", name, e, want)
	}
	if want == api.OK {
		b.names = slices.DeleteFunc(b.names, func(other string) bool { return other == name })
		delete(b.items, name)
	}
	if want == api.OK && b.Get(name) != nil {
		b.Fatalf("%q is still there", name)
	}
	b.look()
}

// P26.1

func TestNew(t *testing.T) {
	s := shelf.New()
	if s == nil || len(s.Names()) != 0 || s.Get("a") != nil || s.Get("") != nil {
		t.Error("a new one has something")
	}
	if shelf.MaxItems != 64 || shelf.MaxName != 32 {
		t.Error("MaxItems, MaxName")
	}
}

func TestNamesThatMayBe(t *testing.T) {
	b := empty(t)
	long := strings.Repeat("x", shelf.MaxName)
	for _, name := range []string{"a", "!", "~", "A", "0", "png/1.2", `"\`, long, long[1:]} {
		b.put(name, api.OK)
	}
	for _, name := range []string{"", " ", "a b", "a ", " a", "\x7f", "a\x7f", "\x80", "\xff", "\x00", "a\x00", "\n", "é", "a\x1f", long + "x", long + " ", strings.Repeat("y", 1000)} {
		b.put(name, api.ErrForm)
		if b.Get(name) != nil {
			t.Errorf("%q is there", name)
		}
	}
	for c := range 256 {
		want := api.OK
		if c < 33 || c > 126 {
			want = api.ErrForm
		}
		if e := shelf.New().Text("a"+string([]byte{byte(c)}), right); e != want {
			t.Errorf("%d: %v, want %v", c, e, want)
		}
		if e := shelf.New().Spec(string([]byte{byte(c)})+"a", api.Spec{}); e != want {
			t.Errorf("%d: %v, want %v", c, e, want)
		}
	}
}

// What is refused changes nothing.
func TestNamesThatAreThere(t *testing.T) {
	b := empty(t)
	b.put("a", api.OK)
	b.put("b", api.OK)
	for _, name := range []string{"a", "b"} {
		x := b.Get(name)
		if e := b.Text(name, "main = u16be;"); e != api.ErrTwice {
			t.Errorf("Text of %s: %v", name, e)
		}
		if e := b.Spec(name, read(t, "main = u16be;")); e != api.ErrTwice {
			t.Errorf("Spec of %s: %v", name, e)
		}
		b.look()
		if got := x.Source(); got != right+"\n" {
			t.Errorf("%s: %s", name, got)
		}
	}
	b.put("A", api.OK) // it is another name
}

func TestFullOnes(t *testing.T) {
	b := empty(t)
	for i := range shelf.MaxItems {
		b.put(fmt.Sprint("n", i), api.OK)
	}
	for range 2 {
		for range 2 { // a text, and a specification
			b.put("more", api.ErrLong)
		}
		for range 2 {
			b.put("n5", api.ErrTwice) // ahead of that
		}
		for range 2 {
			b.put("", api.ErrForm)
		}
		b.drop("more", api.ErrMissing)
		b.drop("n7", api.OK)
		b.put("n7", api.OK) // the last one
	}
}

func TestDrop(t *testing.T) {
	b := empty(t)
	b.drop("a", api.ErrMissing)
	for _, name := range []string{"a", "b", "c", "d"} {
		b.put(name, api.OK)
	}
	b.drop("e", api.ErrMissing)
	b.drop("", api.ErrMissing)
	b.drop("b", api.OK)
	b.drop("b", api.ErrMissing)
	was := b.Get("a")
	was.Check()
	b.drop("a", api.OK)
	b.put("b", api.OK)
	b.put("a", api.OK)
	if again := b.Get("a"); again == was {
		t.Error("the item that was dropped is there again")
	} else if calls, made := again.Made(); calls != 0 || made != 0 {
		t.Errorf("another one was asked %d times, made %d times", calls, made)
	}
	if f := was.Check(); f != (api.Fault{}) { // it goes on for whoever has it
		t.Error(f)
	}
	if got := b.Names(); !slices.Equal(got, []string{"c", "d", "b", "a"}) {
		t.Errorf("%q", got)
	}
	for _, name := range b.Names() {
		b.drop(name, api.OK)
	}
	if got := b.Names(); len(got) != 0 {
		t.Errorf("%q", got)
	}
}

// Calls by chance.
func TestShelvesBySamples(t *testing.T) {
	m := &sample.Maker{Seed: 90}
	for range 5 {
		b := empty(t)
		for range 800 {
			name := fmt.Sprint("n", m.UpTo(100))
			_, there := b.items[name]
			switch {
			case m.UpTo(5) < 2 && there:
				b.drop(name, api.OK)
			case there:
				b.put(name, api.ErrTwice)
			case len(b.names) == shelf.MaxItems:
				b.put(name, api.ErrLong)
			case m.UpTo(10) == 0:
				b.drop(name, api.ErrMissing)
			default:
				b.put(name, api.OK)
			}
		}
		if len(b.names) < 30 {
			t.Errorf("just %d", len(b.names))
		}
	}
}

// Lists of names are new memory; two shelves share nothing.
func TestShelvesAreTheirOwn(t *testing.T) {
	b := empty(t)
	for _, name := range []string{"a", "b", "c"} {
		b.put(name, api.OK)
	}
	list := b.Names()
	list = list[:cap(list)]
	for i := range list {
		list[i] = "x"
	}
	b.look()
	kept := b.Names()
	b.drop("a", api.OK)
	b.put("d", api.OK)
	if !slices.Equal(kept, []string{"a", "b", "c"}) {
		t.Errorf("%q", kept)
	}
	other := empty(t)
	other.put("a", api.OK)
	other.put("z", api.OK)
	b.look()
	if other.Get("b") != nil || b.Get("z") != nil || b.Get("a") != nil {
		t.Error("what stands on one stands on the other one")
	}
}

// A specification is kept as it was when it was handed in.
func TestSpecsAreKept(t *testing.T) {
	x := read(t, "a = { k: u8 0..9; v: switch k { 0: u8; else: empty; }; }; main = chain { a | last /;/ };")
	kept := spec.Clone(x)
	item := itemOf(t, x)
	if !spec.Same(x, kept) {
		t.Error("it was changed")
	}
	for i := range x.Nodes {
		clear(x.Nodes[i].Kids)
		clear(x.Nodes[i].Last)
		clear(x.Nodes[i].Fields)
		clear(x.Nodes[i].Cases)
	}
	clear(x.Nodes)
	clear(x.Defs)
	if f := item.Check(); f != (api.Fault{}) {
		t.Error(f)
	}
	if y := read(t, item.Source()); !spec.Same(y, kept) {
		t.Error(item.Source())
	}
}
