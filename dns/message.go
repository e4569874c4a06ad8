package dns

import (
	"guipure/api"
	"guipure/tree"
)

// Question is a part of a message: what is asked.
type Question struct {
	Name        Name
	Type, Class uint16
}

// Record is a part of a message: what is told of a name.
type Record struct {
	Name        Name
	Type, Class uint16
	TTL         uint32
	Data        []byte
}

// Message is a message: its number and flags, questions, and three lists of records.
type Message struct {
	ID, Flags uint16
	Questions []Question
	Records   [3][]Record // answers, authority, additional
}

// Which of a message's parts, from 0 on, are its questions, and the first of its lists of records.
const (
	asked = 6
	told  = asked + 1
)

// each: of each thing of a list what is made of it.
func each[A, B any](list []A, made func(A) B) []B {
	var out []B
	for _, x := range list {
		out = append(out, made(x))
	}
	return out
}

// parts: a tree of these.
func parts(list ...api.Tree) api.Tree { return api.Tree{Kids: list} }

// Tree: the tree of a message, with what is derived blank.
func Tree(m Message) api.Tree {
	out := parts(
		tree.Num(uint64(m.ID)), tree.Num(uint64(m.Flags)),
		tree.Blank(), tree.Blank(), tree.Blank(), tree.Blank(),
		parts(each(m.Questions, Question.tree)...),
	)
	for _, list := range m.Records {
		out.Kids = append(out.Kids, parts(each(list, Record.tree)...))
	}
	return out
}

// message: the one that a tree is.
func message(t api.Tree) Message {
	m := Message{
		ID:        uint16(t.Kids[0].Num),
		Flags:     uint16(t.Kids[1].Num),
		Questions: each(t.Kids[asked].Kids, question),
	}
	for i := range m.Records {
		m.Records[i] = each(t.Kids[told+i].Kids, record)
	}
	return m
}

// names: those of a message, in the order in which they stand.
func (m Message) names() []Name {
	out := each(m.Questions, func(q Question) Name { return q.Name })
	for _, list := range m.Records {
		out = append(out, each(list, func(r Record) Name { return r.Name })...)
	}
	return out
}

// tree: the one of a question.
func (q Question) tree() api.Tree {
	return parts(q.Name.tree(), tree.Num(uint64(q.Type)), tree.Num(uint64(q.Class)))
}

// question: the one that a tree is.
func question(t api.Tree) Question {
	return Question{Name: name(t.Kids[0]), Type: uint16(t.Kids[1].Num), Class: uint16(t.Kids[2].Num)}
}

// tree: the one of a record.
func (r Record) tree() api.Tree {
	return parts(
		r.Name.tree(), tree.Num(uint64(r.Type)), tree.Num(uint64(r.Class)), tree.Num(uint64(r.TTL)),
		tree.Blank(), tree.Data(r.Data...),
	)
}

// record: the one that a tree is.
func record(t api.Tree) Record {
	return Record{
		Name:  name(t.Kids[0]),
		Type:  uint16(t.Kids[1].Num),
		Class: uint16(t.Kids[2].Num),
		TTL:   uint32(t.Kids[3].Num),
		Data:  t.Kids[5].Data, // behind its length
	}
}
