package sample

import (
	"math"
	"slices"

	"guipure/api"
	"guipure/tree"
)

// Ways: those to all parts of a tree, from the front on.
func Ways(t api.Tree) [][]int { return ways(t, nil) }

// ways: likewise, behind a way.
func ways(t api.Tree, way []int) [][]int {
	out := [][]int{slices.Clone(way)}
	for i, kid := range t.Kids {
		out = append(out, ways(kid, append(way, i))...)
	}
	return out
}

// Spoilt: a tree of which a part is another one.
func (m *Maker) Spoilt(t api.Tree) api.Tree {
	all := Ways(t)
	way := all[m.UpTo(len(all))]
	part, _ := tree.At(t, way...)
	other, _ := tree.At(t, all[m.UpTo(len(all))]...)
	switch m.UpTo(12) {
	case 0:
		part.Num++
	case 1:
		part.Num = m.Number(math.MaxUint64)
	case 2:
		part.Num = 0
	case 3:
		part.Blank = !part.Blank
	case 4:
		part.Data = append(part.Data, byte(m.UpTo(256)))
	case 5:
		part.Data = part.Data[:m.UpTo(len(part.Data)+1)]
	case 6:
		if len(part.Data) > 0 {
			part.Data[m.UpTo(len(part.Data))]++
		}
	case 7:
		part.Kids = append(part.Kids, other)
	case 8:
		part.Kids = part.Kids[:m.UpTo(len(part.Kids)+1)]
	case 9:
		if len(part.Kids) > 0 {
			i, j := m.UpTo(len(part.Kids)), m.UpTo(len(part.Kids))
			part.Kids[i], part.Kids[j] = part.Kids[j], part.Kids[i]
		}
	case 10:
		part = other
	case 11:
		part = tree.Blank()
	}
	out, _ := tree.Put(t, part, way...)
	return out
}

// Spoil changes all memory of a tree, its spare room too, so that it shows who shares it.
func Spoil(t api.Tree) {
	b := t.Data[:cap(t.Data)]
	for i := range b {
		b[i] = 0xee
	}
	all := t.Kids[:cap(t.Kids)]
	for i := range all {
		Spoil(all[i])
		all[i] = api.Tree{Num: 0xeeee}
	}
}
