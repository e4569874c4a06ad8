package dns_test

import (
	"bytes"
	"encoding/binary"
	"slices"
	"strings"

	"guipure/api"
	"guipure/dns"
	"guipure/sample"
)

// root: the name without labels.
func root() dns.Name { return dns.Name{Pointer: -1} }

// named: a name of labels, with points between them, and no pointer.
func named(text string) dns.Name { return dns.Name{Labels: strings.Split(text, "."), Pointer: -1} }

// pair: a number of two bytes.
func pair(n uint16) []byte { return binary.BigEndian.AppendUint16(nil, n) }

// nameBytes: a name's bytes.
func nameBytes(n dns.Name) []byte {
	var out []byte
	for _, label := range n.Labels {
		out = append(append(out, byte(len(label))), label...)
	}
	if n.Pointer < 0 {
		return append(out, 0)
	}
	return append(out, pair(0xc000|uint16(n.Pointer))...)
}

// bytesOf: a message's bytes.
func bytesOf(m dns.Message) []byte {
	out := slices.Concat(pair(m.ID), pair(m.Flags), pair(uint16(len(m.Questions))))
	for _, list := range m.Records {
		out = append(out, pair(uint16(len(list)))...)
	}
	for _, q := range m.Questions {
		out = slices.Concat(out, nameBytes(q.Name), pair(q.Type), pair(q.Class))
	}
	for _, r := range slices.Concat(m.Records[:]...) {
		out = slices.Concat(out, nameBytes(r.Name), pair(r.Type), pair(r.Class))
		out = binary.BigEndian.AppendUint32(out, r.TTL)
		out = slices.Concat(out, pair(uint16(len(r.Data))), r.Data)
	}
	return out
}

// cutter takes a message from the front of bytes on; what is wrong is told by short.
type cutter struct {
	rest  []byte
	short bool
}

// take: so many bytes.
func (c *cutter) take(many int) []byte {
	if many > len(c.rest) {
		c.short = true
		return make([]byte, many)
	}
	out := c.rest[:many]
	c.rest = c.rest[many:]
	return out
}

// number: one of two bytes.
func (c *cutter) number() uint16 { return binary.BigEndian.Uint16(c.take(2)) }

// name: labels up to a 0 or a pointer.
func (c *cutter) name() dns.Name {
	n := root()
	for !c.short {
		switch first := int(c.take(1)[0]); {
		case first == 0:
			return n
		case first < 64:
			n.Labels = append(n.Labels, string(c.take(first)))
		case first >= 192:
			n.Pointer = (first-192)*256 + int(c.take(1)[0])
			return n
		default:
			c.short = true
		}
	}
	return n
}

// cut: the message that bytes are; false: they are none.
func cut(b []byte) (dns.Message, bool) {
	c := &cutter{rest: b}
	m := dns.Message{ID: c.number(), Flags: c.number()}
	var many [4]uint16
	for i := range many {
		many[i] = c.number()
	}
	for i := uint16(0); i < many[0] && !c.short; i++ {
		m.Questions = append(m.Questions, dns.Question{Name: c.name(), Type: c.number(), Class: c.number()})
	}
	for list := range m.Records {
		for i := uint16(0); i < many[list+1] && !c.short; i++ {
			r := dns.Record{Name: c.name(), Type: c.number(), Class: c.number()}
			r.TTL = binary.BigEndian.Uint32(c.take(4))
			r.Data = c.take(int(c.number()))
			m.Records[list] = append(m.Records[list], r)
		}
	}
	if c.short || len(c.rest) > 0 {
		return dns.Message{}, false
	}
	return m, true
}

// sameName: are they the same names?
func sameName(a, b dns.Name) bool { return a.Pointer == b.Pointer && slices.Equal(a.Labels, b.Labels) }

// sameQuestion: are they the same questions?
func sameQuestion(a, b dns.Question) bool {
	return a.Type == b.Type && a.Class == b.Class && sameName(a.Name, b.Name)
}

// sameRecord: are they the same records?
func sameRecord(a, b dns.Record) bool {
	return a.Type == b.Type && a.Class == b.Class && a.TTL == b.TTL && bytes.Equal(a.Data, b.Data) && sameName(a.Name, b.Name)
}

// same: are they the same messages?
func same(a, b dns.Message) bool {
	for i := range a.Records {
		if !slices.EqualFunc(a.Records[i], b.Records[i], sameRecord) {
			return false
		}
	}
	return a.ID == b.ID && a.Flags == b.Flags && slices.EqualFunc(a.Questions, b.Questions, sameQuestion)
}

// follow: the labels of the name with which a rest of bytes begins, behind some labels and so many pointers, and how many bytes of the rest it has.
func follow(b, rest []byte, labels []string, jumps int) ([]string, int, api.Errno) {
	if len(rest) == 0 {
		return nil, 0, api.ErrEnd
	}
	first := int(rest[0])
	switch {
	case first == 0:
		return labels, 1, api.OK
	case first>>6 == 1 || first>>6 == 2:
		return nil, 0, api.ErrChoice
	case first>>6 == 3 && len(rest) < 2:
		return nil, 0, api.ErrEnd
	case first>>6 == 3 && jumps == dns.MaxJumps:
		return nil, 0, api.ErrDeep
	case first>>6 == 3:
		to := min(int(binary.BigEndian.Uint16(rest)&0x3fff), len(b))
		labels, _, e := follow(b, b[to:], labels, jumps+1)
		return labels, 2, e
	case len(rest) <= first:
		return nil, 0, api.ErrEnd
	}
	labels = append(labels, string(rest[1:1+first]))
	if len(strings.Join(labels, "."))+2 > dns.MaxName { // a byte ahead of the first one, too, and one behind
		return nil, 0, api.ErrLong
	}
	labels, many, e := follow(b, rest[1+first:], labels, jumps)
	return labels, 1 + first + many, e
}

// resolve: what Resolve must answer.
func resolve(b []byte, at int) ([]string, int, api.Errno) {
	if at < 0 || at > len(b) {
		return nil, 0, api.ErrRange
	}
	labels, many, e := follow(b, b[at:], nil, 0)
	if e != api.OK {
		return nil, 0, e
	}
	return labels, at + many, e
}

// row: up to so many bytes less one.
func row(m *sample.Maker, many int) []byte {
	var out []byte
	for range m.UpTo(many) {
		out = append(out, byte(m.UpTo(256)))
	}
	return out
}

// name: one that may be.
func name(m *sample.Maker) dns.Name {
	n := root()
	for range m.UpTo(4) {
		n.Labels = append(n.Labels, "a"+string(row(m, 5)))
	}
	switch m.UpTo(8) {
	case 0:
		n.Labels = append(n.Labels, strings.Repeat("x", dns.MaxLabel))
	case 1, 2:
		n.Pointer = m.UpTo(16384)
	case 3:
		n.Pointer = 16383 * m.UpTo(2)
	}
	return n
}

// message: one that may be, with lists of less than so many things.
func message(m *sample.Maker, many int) dns.Message {
	number := func() uint16 { return uint16(m.UpTo(1 << 16)) }
	out := dns.Message{ID: number(), Flags: number()}
	for range m.UpTo(many) {
		out.Questions = append(out.Questions, dns.Question{Name: name(m), Type: number(), Class: number()})
	}
	for i := range out.Records {
		for range m.UpTo(many) {
			ttl := uint32(number())<<16 | uint32(number())
			out.Records[i] = append(out.Records[i], dns.Record{Name: name(m), Type: number(), Class: number(), TTL: ttl, Data: row(m, 10)})
		}
	}
	return out
}
