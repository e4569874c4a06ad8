package emit_test

import (
	"math"
	"slices"
	"testing"

	"guipure/api"
	"guipure/sample"
	"guipure/tree"
)

// texts are specifications in which much is derived.
func texts() []string {
	return append(sample.Texts(),
		"main = { n: u8 = size(d); d: bytes[n]; c: u32be = crc(n..d); };",
		"main = { a: u8; s: u32be = crc(a..a); t: u32le = crc(s..s); u: u32be = crc(a..t); v: u32be = crc(u..u); };",
		"a = { k: u8 1..9 = count(t); t: times[k] { x: u8; s: u32be = crc(x..x); }; c: u32be = crc(k..t); }; main = { n: u16be = size(w); m: u8 0..2; w: within[n] chain { a | last { z: u8 10..10; e: empty; f: u32le = crc(e..e); } }; s: switch m { 0: empty; 1: a; else: oneof { a | /x[a-z]*;/ }; }; g: u32be = crc(n..s); };",
		"main = { n: u8 = size(w); k: u8 0..3; w: within[n] { o: u8 = size(v); v: within[o] { d: bytes[k]; s: u32be = crc(d..d); }; }; s: switch k { 0: empty; 1: { q: varint = size(e); e: bytes[q]; }; 2: zigzag lenient; 3: u24le; }; };",
	)
}

// other: a tree a number of whose parts, which is often a checksum, is another one, or blank.
func other(m *sample.Maker, t api.Tree) api.Tree {
	all := sample.Ways(t)
	way := all[m.UpTo(len(all))]
	for range 5 {
		if part, _ := tree.At(t, way...); part.Num > math.MaxUint16 {
			break
		}
		way = all[m.UpTo(len(all))]
	}
	part, _ := tree.At(t, way...)
	switch m.UpTo(3) {
	case 0:
		part.Num ^= 1 << m.UpTo(32)
	case 1:
		part = tree.Blank()
	case 2:
		part.Num = m.Number(math.MaxUint32)
	}
	out, _ := tree.Put(t, part, way...)
	return out
}

// most: mostly as many bytes as one likes; else about as many as a tree has.
func (b *bench) most(m *sample.Maker, t api.Tree) int {
	_, size, f := b.filler.Fill(t)
	if f.Code != api.OK || m.UpTo(8) > 0 {
		return math.MaxInt
	}
	return size + 1 - m.UpTo(3)
}

// try: trees, as they are, with all that is derived right, and spoilt.
func (b *bench) try(m *sample.Maker, many int) map[api.Errno]int {
	met := map[api.Errno]int{}
	for _, x := range m.Planted(b.spec, many) {
		if tree.Parts(x) > 400 {
			continue
		}
		met[b.want(x, b.most(m, x)).Code]++
		if filled, _, f := b.filler.Fill(x); f.Code == api.OK {
			_, right := sample.Written(b.spec, filled)
			met[b.want(right, b.most(m, right)).Code]++
			x = right
		}
		for range max(0, m.UpTo(4)-1) {
			x = other(m, x)
		}
		met[b.want(x, b.most(m, x)).Code]++
		for range max(0, m.UpTo(5)-2) {
			x = m.Spoilt(x)
		}
		met[b.want(x, b.most(m, x)).Code]++
		if tree.Parts(x) < 60 {
			b.wantBlanks(x)
		}
	}
	return met
}

// told: the errors that are told of trees.
func told() []api.Errno {
	return []api.Errno{api.OK, api.ErrLong, api.ErrSum, api.ErrShape, api.ErrBlank, api.ErrValue, api.ErrToken, api.ErrLimit, api.ErrOver, api.ErrCase}
}

// count: how often each was met.
func count(to, met map[api.Errno]int) {
	for code, many := range met {
		to[code] += many
	}
}

func TestSamples(t *testing.T) {
	m := &sample.Maker{Seed: 70}
	total := map[api.Errno]int{}
	for i := range 1200 {
		s := m.Shuffled(m.Accepted(1 + i%5))
		if len(s.Nodes) <= 150 {
			count(total, set(t, s).try(m, 8))
		}
	}
	for _, code := range told() {
		if total[code] < 5 && code != api.ErrOver {
			t.Errorf("met: %v", total)
		}
	}
}

func TestTexts(t *testing.T) {
	m := &sample.Maker{Seed: 71}
	total := map[api.Errno]int{}
	for _, text := range texts() {
		met := set(t, read(t, text)).try(m, 400)
		if met[api.OK] < 200 || met[api.ErrLong] < 10 {
			t.Errorf("%s: met %v", text, met)
		}
		count(total, met)
	}
	for _, code := range told() {
		if total[code] < 10 {
			t.Errorf("met: %v", total)
		}
	}
}

// What Blanks answers is written as it was.
func TestBlanksAreFilledInAgain(t *testing.T) {
	m := &sample.Maker{Seed: 72}
	blank := 0
	for _, text := range texts() {
		b := set(t, read(t, text))
		for _, p := range m.Pairs(b.spec, 100) {
			x, f := b.writer.Blanks(p.Tree)
			out, right, g := b.writer.Write(x, len(p.Bytes))
			if f != (api.Fault{}) || g != f || !slices.Equal(out, p.Bytes) || !tree.Same(right, p.Tree) {
				t.Fatalf("%s by %s: %s, %v, %x, %v", tree.Text(p.Tree), text, tree.Text(x), f, out, g)
			}
			if !tree.Same(x, p.Tree) {
				blank++
			}
		}
	}
	if blank < 500 {
		t.Errorf("only %d", blank)
	}
}

// Trees of any form.
func TestRawTrees(t *testing.T) {
	m := &sample.Maker{Seed: 73}
	for _, text := range texts() {
		b := set(t, read(t, text))
		for i := range 200 {
			x := m.Tree(i % 6)
			b.want(x, m.UpTo(100)-5)
			b.wantBlanks(x)
		}
		for _, most := range []int{math.MinInt, -1, 0, math.MaxInt} {
			b.want(api.Tree{}, most)
			b.want(api.Tree{Data: []byte{}, Kids: []api.Tree{}}, most)
		}
	}
}
