package emit_test

import (
	"bytes"
	"reflect"
	"testing"

	"guipure/api"
	"guipure/emit"
	"guipure/lower"
	"guipure/parse"
	"guipure/sample"
	"guipure/scan"
	"guipure/show"
	"guipure/tree"
	"guipure/valid"
)

// read: the specification of a text.
func read(t *testing.T, text string) api.Spec {
	t.Helper()
	s, f := parse.Parse(text)
	if f.Code != api.OK {
		t.Fatalf("Parse of %.200q: %v", text, f)
	}
	return s
}

// grown: the tree of a text.
func grown(t *testing.T, text string) api.Tree {
	t.Helper()
	x, e := tree.Parse(text)
	if e != api.OK {
		t.Fatalf("Parse of %.200q: %v", text, e)
	}
	return x
}

// bench is a specification, and what writes, fills in and reads by it.
type bench struct {
	*testing.T
	spec    api.Spec
	writer  *emit.Writer
	filler  *valid.Maker
	program *lower.Result
	met     map[string]api.Tree // of bytes that were written, the tree
}

// set: one of an accepted specification.
func set(t *testing.T, s api.Spec) *bench {
	t.Helper()
	w, f := emit.New(s)
	m, g := valid.New(s)
	r, h := lower.Make(s)
	if w == nil || f != (api.Fault{}) || g != f || h != f {
		t.Fatalf("%s: %v, %v, %v", show.Text(s), f, g, h)
	}
	return &bench{T: t, spec: s, writer: w, filler: m, program: r, met: map[string]api.Tree{}}
}

// parts: those of a tree, from the front on, each without its own.
func parts(t api.Tree) []api.Tree {
	var out []api.Tree
	tree.Each(t, func(part api.Tree) bool {
		part.Kids = nil
		out = append(out, part)
		return true
	})
	return out
}

// write: what layer 24 tells of a tree. All checksums are reckoned as if those ahead were right, so the first one that is another one is wrong.
func (b *bench) write(t api.Tree, most int) ([]byte, api.Tree, api.Fault) {
	filled, size, f := b.filler.Fill(t)
	if f.Code != api.OK {
		return nil, api.Tree{}, f
	}
	if size > most {
		return nil, api.Tree{}, api.Fault{Code: api.ErrLong}
	}
	out, right := sample.Written(b.spec, filled)
	all := parts(right)
	for at, part := range parts(filled) {
		if !part.Blank && part.Num != all[at].Num {
			return nil, api.Tree{}, api.Fault{Code: api.ErrSum, At: at}
		}
	}
	return out, right, api.Fault{}
}

// want tells if Write of a tree isn't what is told here: the fault.
func (b *bench) want(t api.Tree, most int) api.Fault {
	b.Helper()
	kept := tree.Clone(t)
	want, right, fault := b.write(t, most)
	got, filled, f := b.writer.Write(t, most)
	if f != fault || !bytes.Equal(got, want) || !tree.Same(filled, right) {
		b.Fatalf("%s by\n%s: %x, %s, %v, want %x, %s, %v", tree.Text(t), show.Text(b.spec), got, tree.Text(filled), f, want, tree.Text(right), fault)
	}
	if !reflect.DeepEqual(t, kept) || f.Code != api.OK && (got != nil || !reflect.DeepEqual(filled, api.Tree{})) {
		b.Fatalf("%s was changed, or something is answered beside %v", tree.Text(kept), f)
	}
	if f.Code == api.OK {
		b.wantRead(got, filled)
	}
	return f
}

// wantRead tells if bytes that were written aren't read as their tree, under caps that have just so much room, or are those of another one, too.
func (b *bench) wantRead(out []byte, filled api.Tree) {
	b.Helper()
	caps := api.Caps{Input: len(out), Depth: tree.Depth(filled), Tokens: tree.Parts(filled)}
	if got, _, f := scan.Scan(b.program, out, caps); f != (api.Fault{}) || !tree.Same(got, filled) {
		b.Fatalf("%x by\n%s: %s, %v, want %s", out, show.Text(b.spec), tree.Text(got), f, tree.Text(filled))
	}
	other, ok := b.met[string(out)]
	if ok && !tree.Same(other, filled) {
		b.Fatalf("%x by\n%s: %s, and %s", out, show.Text(b.spec), tree.Text(filled), tree.Text(other))
	}
	b.met[string(out)] = filled
}

// blanks: a tree, filled in, of which each part is blank that layer 18 would fill in, or leave blank, if it were.
func (b *bench) blanks(t api.Tree) (api.Tree, api.Fault) {
	out, _, f := b.filler.Fill(t)
	if f.Code != api.OK {
		return api.Tree{}, f
	}
	filled := tree.Clone(out)
	for _, way := range sample.Ways(filled) {
		one, _ := tree.Put(filled, tree.Blank(), way...)
		if _, _, f := b.filler.Fill(one); f.Code == api.OK {
			out, _ = tree.Put(out, tree.Blank(), way...)
		}
	}
	return out, api.Fault{}
}

// wantBlanks tells if Blanks of a tree isn't that: the fault.
func (b *bench) wantBlanks(t api.Tree) api.Fault {
	b.Helper()
	kept := tree.Clone(t)
	want, fault := b.blanks(t)
	got, f := b.writer.Blanks(t)
	if f != fault || !tree.Same(got, want) {
		b.Fatalf("%s by\n%s: %s, %v, want %s, %v", tree.Text(t), show.Text(b.spec), tree.Text(got), f, tree.Text(want), fault)
	}
	if !reflect.DeepEqual(t, kept) || f.Code != api.OK && !reflect.DeepEqual(got, api.Tree{}) {
		b.Fatalf("%s was changed, or a tree is answered beside %v", tree.Text(kept), f)
	}
	return f
}
