package scan_test

import (
	"bytes"
	"reflect"
	"testing"

	"guipure/api"
	"guipure/lower"
	"guipure/parse"
	"guipure/sample"
	"guipure/scan"
	"guipure/show"
	"guipure/tree"
)

// read: the specification of a text.
func read(t *testing.T, text string) api.Spec {
	t.Helper()
	s, f := parse.Parse(text)
	if f.Code != api.OK {
		t.Fatalf("Parse of %.200q: %v", text, f)
	}
	return s
}

// program: that of a specification.
func program(t *testing.T, s api.Spec) *lower.Result {
	t.Helper()
	r, f := lower.Make(s)
	if f.Code != api.OK {
		t.Fatalf("%s: %v", show.Text(s), f)
	}
	return r
}

// wantScan tells if Scan of bytes isn't what the oracle tells: the fault.
func wantScan(t *testing.T, r *lower.Result, o *oracle, b []byte, caps api.Caps) api.Fault {
	t.Helper()
	kept := bytes.Clone(b)
	want, steps, fault := o.scan(b, caps)
	got, many, f := scan.Scan(r, b, caps)
	if f != fault || !tree.Same(got, want) {
		t.Fatalf("%x by\n%s%+v: %s, %v, want %s, %v", b, show.Text(o.s), caps, tree.Text(got), f, tree.Text(want), fault)
	}
	if f.Code == api.OK && many != steps || many > steps { // what is wrong ends it
		t.Fatalf("%x by\n%s%+v: %v, %d steps, want %d", b, show.Text(o.s), caps, f, many, steps)
	}
	if !bytes.Equal(b, kept) || f.Code != api.OK && !reflect.DeepEqual(got, api.Tree{}) {
		t.Fatalf("%x was changed, or a tree is answered beside %v", kept, f)
	}
	return f
}

// told: all errors that are told of bytes.
func told() []api.Errno {
	return []api.Errno{
		api.OK, api.ErrEnd, api.ErrVar, api.ErrCanon, api.ErrOver, api.ErrValue, api.ErrToken, api.ErrChoice, api.ErrCase,
		api.ErrLimit, api.ErrSum, api.ErrRest, api.ErrInput, api.ErrDepth, api.ErrTokens,
	}
}

func TestSamples(t *testing.T) {
	m := &sample.Maker{Seed: 40}
	met := map[api.Errno]int{}
	for i := range 1200 {
		s := m.Shuffled(m.Accepted(1 + i%5))
		if len(s.Nodes) > 150 {
			continue
		}
		r, o := program(t, s), judge(s)
		for _, p := range m.Pairs(s, 8) {
			if got, _, f := scan.Scan(r, p.Bytes, sample.Ample()); f != (api.Fault{}) || !tree.Same(got, p.Tree) {
				t.Fatalf("%x by\n%s: %s, %v, want %s", p.Bytes, show.Text(s), tree.Text(got), f, tree.Text(p.Tree))
			}
			b := p.Bytes
			for range 4 {
				met[wantScan(t, r, o, b, m.Caps(p)).Code]++
				b = m.Garbled(b)
			}
		}
	}
	if len(met) < len(told())-2 {
		t.Errorf("met: %v", met)
	}
}

func TestTexts(t *testing.T) {
	m := &sample.Maker{Seed: 41}
	total := map[api.Errno]int{}
	for _, text := range sample.Texts() {
		s := read(t, text)
		r, o := program(t, s), judge(s)
		met := map[api.Errno]int{}
		for _, p := range m.Pairs(s, 1000) {
			b := p.Bytes
			for range 8 {
				met[wantScan(t, r, o, b, m.Caps(p)).Code]++
				b = m.Garbled(b)
			}
		}
		if len(met) < 6 || met[api.OK] < 200 {
			t.Errorf("%s: met %v", text, met)
		}
		for code, many := range met {
			total[code] += many
		}
	}
	for _, code := range told() {
		if total[code] < 5 {
			t.Errorf("met: %v", total)
		}
	}
}

// Bytes by chance, and all rows of few ones.
func TestRows(t *testing.T) {
	m := &sample.Maker{Seed: 42}
	for _, text := range sample.Texts() {
		s := read(t, text)
		r, o := program(t, s), judge(s)
		for range 500 {
			b := make([]byte, m.UpTo(20))
			for i := range b {
				b[i] = byte(m.UpTo(256) >> m.UpTo(9))
			}
			wantScan(t, r, o, b, m.Caps(sample.Pair{Bytes: b}))
		}
		for _, b := range sample.Rows(3) {
			wantScan(t, r, o, b, sample.Ample())
		}
	}
}
