package cost_test

import (
	"bytes"
	"reflect"
	"slices"
	"sync"
	"testing"

	"guipure/api"
	"guipure/cost"
	"guipure/feed"
	"guipure/lower"
	"guipure/sample"
	"guipure/scan"
	"guipure/show"
	"guipure/tree"
)

// gauge is a meter, and what it must have counted.
type gauge struct {
	cost.Meter
	*testing.T
	spec   api.Spec
	result *lower.Result
	want   cost.Counts
}

// set: one of a specification, that has counted nothing.
func set(t *testing.T, s api.Spec) *gauge {
	t.Helper()
	return &gauge{T: t, spec: s, result: program(t, s)}
}

// wantRead tells if reading didn't answer what it must, or wasn't counted so, whose bytes and pieces are counted already: the fault.
func (g *gauge) wantRead(what string, got, want api.Tree, f, fault api.Fault, steps int) api.Fault {
	g.Helper()
	g.want.Scans++
	g.want.Steps += uint64(steps)
	if fault.Code != api.OK {
		g.want.Faults++
		want = api.Tree{}
	}
	if f != fault || !tree.Same(got, want) || f.Code != api.OK && !reflect.DeepEqual(got, api.Tree{}) {
		g.Fatalf("%s by\n%s: %s, %v, want %s, %v", what, show.Text(g.spec), tree.Text(got), f, tree.Text(want), fault)
	}
	if c := g.Counts(); c != g.want {
		g.Fatalf("%s by\n%s: %+v, want %+v", what, show.Text(g.spec), c, g.want)
	}
	return f
}

// once: bytes are read at once.
func (g *gauge) once(b []byte, caps api.Caps) api.Fault {
	g.Helper()
	kept := bytes.Clone(b)
	want, steps, fault := scan.Scan(g.result, b, caps)
	got, f := g.Scan(g.result, b, caps)
	if !bytes.Equal(b, kept) {
		g.Fatalf("%x was changed", kept)
	}
	g.want.Bytes += uint64(len(b))
	return g.wantRead("Scan", got, want, f, fault, steps)
}

// fed: bytes are read in pieces.
func (g *gauge) fed(caps api.Caps, pieces ...[]byte) api.Fault {
	g.Helper()
	m := feed.New(g.result, caps)
	kept := make([][]byte, len(pieces))
	for i, b := range pieces {
		kept[i] = bytes.Clone(b)
		m.Feed(b...)
		g.want.Bytes += uint64(len(b))
	}
	want, fault := m.End()
	got, f := g.Feed(g.result, caps, pieces...)
	if !slices.EqualFunc(pieces, kept, bytes.Equal) {
		g.Fatalf("%x were changed", kept)
	}
	g.want.Pieces += uint64(len(pieces))
	return g.wantRead("Feed", got, want, f, fault, m.Steps())
}

// reset: nothing is counted any more.
func (g *gauge) reset() {
	g.Helper()
	for range 2 {
		if c := g.Reset(); c != g.want {
			g.Fatalf("Reset: %+v, want %+v", c, g.want)
		}
		g.want = cost.Counts{}
		if c := g.Counts(); c != g.want {
			g.Fatalf("%+v behind a Reset", c)
		}
	}
}

// pieces: bytes, cut anyhow.
func pieces(m *sample.Maker, b []byte) [][]byte {
	var out [][]byte
	long := 1 + m.UpTo(10)
	for len(b) > 0 {
		many := min(len(b), m.UpTo(long+1))
		out, b = append(out, b[:many]), b[many:]
	}
	return out
}

// P25.3

func TestMeter(t *testing.T) {
	var m cost.Meter
	r := program(t, read(t, "main = { n: u8 1..9 = size(d); d: bytes[n]; };"))
	want := func(c cost.Counts) {
		t.Helper()
		if got := m.Counts(); got != c {
			t.Errorf("%+v, want %+v", got, c)
		}
	}
	want(cost.Counts{})
	if x, f := m.Scan(r, []byte{2, 7, 8}, sample.Ample()); f != (api.Fault{}) || tree.Text(x) != "0(2,0:0708)" {
		t.Errorf("%s, %v", tree.Text(x), f)
	}
	want(cost.Counts{Scans: 1, Bytes: 3, Steps: 5})
	if x, f := m.Scan(r, []byte{2, 7}, sample.Ample()); f != (api.Fault{Code: api.ErrEnd, At: 2}) || !reflect.DeepEqual(x, api.Tree{}) {
		t.Errorf("%s, %v", tree.Text(x), f)
	}
	want(cost.Counts{Scans: 2, Faults: 1, Bytes: 5, Steps: 8})
	if x, f := m.Feed(r, sample.Ample(), []byte{2}, nil, []byte{7, 8}); f != (api.Fault{}) || tree.Text(x) != "0(2,0:0708)" {
		t.Errorf("%s, %v", tree.Text(x), f)
	}
	want(cost.Counts{Scans: 3, Faults: 1, Bytes: 8, Steps: 13, Pieces: 3})
	if x, f := m.Feed(r, sample.Ample(), []byte{1, 7, 0, 0}, []byte{5, 5, 5}); f != (api.Fault{Code: api.ErrRest, At: 2}) || !reflect.DeepEqual(x, api.Tree{}) {
		t.Errorf("%s, %v", tree.Text(x), f)
	}
	want(cost.Counts{Scans: 4, Faults: 2, Bytes: 15, Steps: 18, Pieces: 5}) // all bytes, whether they were read or not
	if _, f := m.Feed(r, sample.Ample()); f != (api.Fault{Code: api.ErrEnd}) {
		t.Error(f)
	}
	all := cost.Counts{Scans: 5, Faults: 3, Bytes: 15, Steps: 20, Pieces: 5}
	want(all)
	want(all) // asking counts nothing
	if got := m.Reset(); got != all {
		t.Errorf("Reset: %+v, want %+v", got, all)
	}
	want(cost.Counts{})
	if got := m.Reset(); got != (cost.Counts{}) {
		t.Errorf("Reset: %+v", got)
	}
	m.Scan(r, nil, api.Caps{})
	want(cost.Counts{Scans: 1, Faults: 1, Steps: 1})
}

// Bytes of trees, and others, at once and in pieces, by one meter of each specification.
func TestMeterOfSamples(t *testing.T) {
	m := &sample.Maker{Seed: 85}
	met := map[api.Errno]int{}
	try := func(s api.Spec, many int) {
		g := set(t, s)
		for _, p := range m.Pairs(s, many) {
			b := p.Bytes
			for range 4 {
				met[g.once(b, m.Caps(p)).Code]++
				met[g.fed(m.Caps(p), pieces(m, b)...).Code]++
				b = m.Garbled(b)
			}
			if m.UpTo(4) == 0 {
				g.reset()
			}
		}
		g.reset()
	}
	for i := range 300 {
		if s := m.Shuffled(m.Accepted(1 + i%5)); len(s.Nodes) <= 150 {
			try(s, 5)
		}
	}
	for _, text := range sample.Texts() {
		try(read(t, text), 50)
	}
	if met[api.OK] < 500 || len(met) < 12 {
		t.Errorf("met: %v", met)
	}
}

// A meter counts what is read by whichever program; two meters share nothing.
func TestMetersAreTheirOwn(t *testing.T) {
	one, two := set(t, read(t, "main = many u8;")), set(t, read(t, "main = u16be;"))
	one.once([]byte{1, 2, 3}, sample.Ample())
	two.fed(sample.Ample(), []byte{1}, []byte{2})
	one.fed(sample.Ample(), []byte{1, 2})
	one.reset()
	two.once([]byte{1}, sample.Ample())
	one.result, two.result = two.result, one.result
	one.once([]byte{1, 2}, sample.Ample())
	two.once([]byte{1, 2}, sample.Ample())
	two.reset()
}

// Trees are new memory.
func TestTreesAreTheirOwn(t *testing.T) {
	g := set(t, read(t, "main = { a: bytes[3]; l: many /x[a-z];/; };"))
	b := []byte("123xa;xb;")
	kept := bytes.Clone(b)
	for range 2 {
		x, f := g.Scan(g.result, b, sample.Ample())
		y, h := g.Feed(g.result, sample.Ample(), b[:4], b[4:])
		if f != (api.Fault{}) || h != f || !tree.Same(x, y) || tree.Text(x) != "0(0:313233,0(0:78613b,0:78623b))" {
			t.Fatalf("%s, %v, %s, %v", tree.Text(x), f, tree.Text(y), h)
		}
		sample.Spoil(x)
		sample.Spoil(y)
		if !bytes.Equal(b, kept) {
			t.Fatalf("%q", b)
		}
	}
}

// Several goroutines at the same time: nothing is lost, whether it is asked back meanwhile or not.
func TestMeterByMany(t *testing.T) {
	const many, often = 8, 200
	r := program(t, read(t, "main = { n: u8 1..9 = size(d); d: bytes[n]; };"))
	var m cost.Meter
	back := make([]cost.Counts, many+1)
	add := func(to *cost.Counts, c cost.Counts) {
		*to = cost.Counts{Scans: to.Scans + c.Scans, Faults: to.Faults + c.Faults, Bytes: to.Bytes + c.Bytes, Steps: to.Steps + c.Steps, Pieces: to.Pieces + c.Pieces}
	}
	var group sync.WaitGroup
	for i := range many {
		group.Go(func() {
			for j := range often {
				m.Scan(r, []byte{2, 7, 8}, sample.Ample())
				m.Feed(r, sample.Ample(), []byte{2}, []byte{7})
				if j%10 == i {
					add(&back[i], m.Reset())
				}
			}
		})
	}
	group.Wait()
	add(&back[many], m.Counts())
	var got cost.Counts
	for _, c := range back {
		add(&got, c)
	}
	if want := (cost.Counts{Scans: 2 * many * often, Faults: many * often, Bytes: 5 * many * often, Steps: 8 * many * often, Pieces: 2 * many * often}); got != want {
		t.Errorf("%+v, want %+v", got, want)
	}
}

// P1, P2

func TestMeterUnderRawCaps(t *testing.T) {
	m := &sample.Maker{Seed: 86}
	for _, text := range sample.Texts() {
		s := read(t, text)
		g := set(t, s)
		for _, p := range m.Pairs(s, 2) {
			for _, caps := range sample.AnyCaps() {
				g.once(p.Bytes, caps)
				g.fed(caps, pieces(m, p.Bytes)...)
			}
		}
		g.fed(sample.Ample(), nil, []byte{}, nil)
	}
}
