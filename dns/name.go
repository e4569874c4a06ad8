package dns

import (
	"strings"

	"guipure/api"
	"guipure/tree"
)

// The limits.
const (
	MaxLabel = 63
	MaxName  = 255 // bytes of a name whose pointers are followed
	MaxJumps = 64
)

const (
	none       = -1 // a pointer that there isn't
	pointers   = 49152
	maxPointer = 1<<16 - 1 - pointers
	byteBits   = 8
	point      = "."
)

// Which of a name's types, from 0 on, a part of it has.
const (
	aLabel = iota
	aRoot
	aPointer
)

// Name is labels, and a pointer behind them; -1: there is none, but the root.
type Name struct {
	Labels  []string
	Pointer int
}

// Check: may a name be: labels of 1 to 63 bytes, a pointer below 16384?
func Check(n Name) api.Errno {
	for _, label := range n.Labels {
		if len(label) < 1 || len(label) > MaxLabel {
			return api.ErrLong
		}
	}
	if n.Pointer < none || n.Pointer > maxPointer {
		return api.ErrRange
	}
	return api.OK
}

// tree: the one of a name.
func (n Name) tree() api.Tree {
	out := parts(each(n.Labels, label)...)
	end := link(aRoot, tree.Num(0))
	if n.Pointer != none {
		end = link(aPointer, tree.Num(pointers+uint64(n.Pointer)))
	}
	out.Kids = append(out.Kids, end)
	return out
}

// label: the tree of one.
func label(text string) api.Tree {
	return link(aLabel, parts(tree.Blank(), tree.Data([]byte(text)...)))
}

// link: a part of a name, by which of its types that is.
func link(which uint64, part api.Tree) api.Tree {
	return api.Tree{Num: which, Kids: []api.Tree{part}}
}

// name: the one that a tree is.
func name(t api.Tree) Name {
	last := len(t.Kids) - 1
	out := Name{Labels: each(t.Kids[:last], text), Pointer: none}
	if end := t.Kids[last]; end.Num == aPointer {
		out.Pointer = int(end.Kids[0].Num - pointers)
	}
	return out
}

// text: the label that a part of a name's tree is.
func text(t api.Tree) string { return string(t.Kids[0].Kids[1].Data) }

// Resolve: the labels of the name at a byte of a message, with its pointers followed, and behind which byte it ends there.
func Resolve(b []byte, at int) ([]string, int, api.Errno) {
	if at < 0 || at > len(b) {
		return nil, 0, api.ErrRange
	}
	r := resolver{bytes: b, at: at, size: 1}
	for !r.over {
		if e := r.step(); e != api.OK {
			return nil, 0, e
		}
	}
	return r.labels, r.end, api.OK
}

// resolver goes through a name, and on where its pointers point.
type resolver struct {
	bytes  []byte // the message
	at     int
	labels []string
	size   int // of all labels, each with the byte ahead of it, and one more
	jumps  int
	end    int // behind which byte the name ends where it begins, as soon as that is known
	over   bool
}

// step: a label more, or a pointer, or the root.
func (r *resolver) step() api.Errno {
	if r.at >= len(r.bytes) { // a pointer may point behind them
		return api.ErrEnd
	}
	first := int(r.bytes[r.at])
	switch {
	case first == 0:
		r.ends(r.at + 1)
		r.over = true
		return api.OK
	case first <= MaxLabel:
		return r.label(first)
	case first < pointers>>byteBits:
		return api.ErrChoice
	}
	return r.jump(first << byteBits)
}

// ends: the name ends here, if it goes on where it begins still.
func (r *resolver) ends(at int) {
	if r.jumps == 0 {
		r.end = at
	}
}

// label: one of so many bytes.
func (r *resolver) label(many int) api.Errno {
	begin := r.at + 1
	end := begin + many
	if end > len(r.bytes) {
		return api.ErrEnd
	}
	r.size += end - r.at
	if r.size > MaxName {
		return api.ErrLong
	}
	r.labels = append(r.labels, string(r.bytes[begin:end]))
	r.at = end
	return api.OK
}

// jump: a pointer, of whose number the high part is known.
func (r *resolver) jump(high int) api.Errno {
	second := r.at + 1
	switch {
	case second == len(r.bytes):
		return api.ErrEnd
	case r.jumps == MaxJumps:
		return api.ErrDeep
	}
	r.ends(second + 1)
	r.jumps++
	r.at = high + int(r.bytes[second]) - pointers
	return api.OK
}

// Join: a name as it is written: its labels, a point behind each; the root is one point.
func Join(labels ...string) string {
	if len(labels) == 0 {
		return point
	}
	return strings.Join(labels, point) + point
}
