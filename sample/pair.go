package sample

import (
	"math"
	"slices"

	"guipure/api"
	"guipure/tree"
	"guipure/valid"
)

// oneMore is what is put to a Varint's byte, if there is one more.
const oneMore = 128

// Pair is bytes, and the tree that they are by a specification.
type Pair struct {
	Bytes []byte
	Tree  api.Tree
}

// Pairs: up to so many of an accepted specification.
func (m *Maker) Pairs(s api.Spec, many int) []Pair {
	fill, _ := valid.New(s)
	var out []Pair
	for _, t := range m.Planted(s, many) {
		if t, _, f := fill.Fill(t); f.Code == api.OK {
			b, t := Written(s, t)
			out = append(out, Pair{Bytes: b, Tree: t})
		}
	}
	return out
}

// Ample: caps under which there is room.
func Ample() api.Caps { return api.Caps{Input: 1 << 24, Depth: 1000, Tokens: 1 << 24} }

// Caps: mostly ample ones; else about such as a pair needs.
func (m *Maker) Caps(p Pair) api.Caps {
	out := Ample()
	deep, parts := tree.Depth(p.Tree), tree.Parts(p.Tree)
	switch m.UpTo(8) {
	case 0:
		out.Input = len(p.Bytes) + 2 - m.UpTo(5)
	case 1:
		out.Depth = deep + 1 - m.UpTo(3)
	case 2:
		out.Tokens = parts + 1 - m.UpTo(4)
	case 3:
		out = api.Caps{Input: m.UpTo(len(p.Bytes) + 2), Depth: 1 + m.UpTo(deep+2), Tokens: 1 + m.UpTo(parts+2)}
	}
	return out
}

// AnyCaps: caps whose numbers are edges, below 0 too, and small ones.
func AnyCaps() []api.Caps {
	numbers := []int{math.MinInt, -1, 0, 1, 2, 3, 5, math.MaxInt}
	var out []api.Caps
	for _, input := range numbers {
		for _, deep := range numbers {
			for _, tokens := range numbers {
				out = append(out, api.Caps{Input: input, Depth: deep, Tokens: tokens})
			}
		}
	}
	return out
}

// Garbled: bytes that are a bit other ones.
func (m *Maker) Garbled(b []byte) []byte {
	at := m.UpTo(len(b) + 1)
	c := byte(m.UpTo(256))
	ahead, behind := slices.Clone(b[:at]), b[at:]
	switch {
	case m.UpTo(8) == 0:
		return ahead
	case m.UpTo(4) == 0:
		return append(append(ahead, c), behind...)
	case len(behind) == 0:
		return append(ahead, c)
	}
	switch m.UpTo(6) {
	case 0: // a number of seven bits a byte that is longer
		return append(append(ahead, behind[0]|oneMore, 0), behind[1:]...)
	case 1:
		return append(ahead, behind[1:]...)
	case 2:
		c = behind[0] + 1
	case 3:
		c = behind[0] - 1
	case 4:
		c = 0
	}
	return append(append(ahead, c), behind[1:]...)
}

// Texts: specifications, as texts, in which there is much to go by when bytes are read.
func Texts() []string {
	return []string{
		"main = { n: u8 1..9 = size(d); d: bytes[n]; };",
		"field = { key: varint lenient 8..4294967295; value: switch key % 8 { 0: varint lenient; 1: u64le; 2: { n: varint lenient = size(d); d: bytes[n]; }; 5: u32le; }; }; main = many field;",
		"chunk = { len: u32be 0..2147483647 = size(data); type: /[A-Za-z]{4}/; data: bytes[len]; sum: u32be = crc(type..data); }; main = { sig: /\\x89PNG\\r\\n\\x1a\\n/; chunks: many chunk; };",
		"name = chain { { n: u8 1..63 = size(t); t: bytes[n]; } | last u8 0..0 | last u16be 49152..65535 }; question = { qname: name; qtype: u16be; }; main = { id: u16be; qd: u8 = count(questions); an: u8 = count(answers); questions: times[qd] question; answers: times[an] name; };",
		"a = { k: varint 0..300; w: within[2] { x: oneof { u8 0..99 | /x[a-z]*;/ }; y: many u8; }; s: u32le = crc(k..w); z: u32be = crc(w..s); }; main = { n: u8 0..3 = count(t); m: u16be = size(v); t: times[n] a; v: within[m] { l: many a; }; c: u32be = crc(n..v); };",
		"main = { m: u8 0..2; a: bytes[9223372036854775808*m]; t: times[9223372036854775808*m] u8; w: within[9223372036854775808*m] many u8; s: switch m { 0: u8; else: bytes[m+18446744073709551614]; }; };",
		"a = chain { u8 0..9 | /x[0-9]*;/ | last { n: u8 10..20; d: bytes[n]; } | last varint 128..300 }; b = times[2] a; main = { n: varint = size(w); w: within[n] chain { b | last /z/ | last oneof { /y/ | { k: u8 100..110; l: many b; } } }; };",
		"main = { n: u8; s: switch n % 4 { 0: empty; 1: { e: varint lenient; d: bytes[2*e+1]; }; 2: within[n] many u16le; }; x: within[5] within[5] { y: u16le 5..1000; z: /[a-z]+[0-9]/; }; };",
	}
}
