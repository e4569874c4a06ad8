package size

import "guipure/dfa"

// web is, of each state of an automaton, to which ones it leads, and by how many bytes.
type web []map[int]int

// lengths: how many bytes the shortest and the longest ones have for which an automaton stands. It stands for some, and from each of its states an end can be reached, as layer 16 has it.
func lengths(a *dfa.Auto) span {
	w := make(web, a.Len())
	for s := range w {
		w[s] = behind(a, s)
	}
	return span{w.shortest(a), w.longest(0, map[int]uint64{})}
}

// behind: the states to which one leads, and by how many bytes.
func behind(a *dfa.Auto, s int) map[int]int {
	out := map[int]int{}
	for c := range a.Classes {
		if to := a.Step(s, byte(c)); to != dfa.Dead {
			out[to]++
		}
	}
	return out
}

// shortest: how many bytes lead to an end at least.
func (w web) shortest(a *dfa.Auto) uint64 {
	met := map[int]uint64{0: 0} // of each state, how many bytes lead there at least
	list := []int{0}            // those that were met: fewer bytes never lead to a later one
	for i := 0; i < len(list); i++ {
		s := list[i]
		if a.Ends(s) {
			return met[s]
		}
		for to := range w[s] {
			if _, ok := met[to]; !ok {
				met[to] = met[s] + 1
				list = append(list, to)
			}
		}
	}
	return Endless
}

// longest: how many bytes lead from a state to an end at most; those that are told already needn't be asked again.
func (w web) longest(s int, told map[int]uint64) uint64 {
	if many, ok := told[s]; ok {
		return many
	}
	told[s] = Endless // so it is, if it is met again behind itself
	var most uint64
	for to := range w[s] {
		most = max(most, add(1, w.longest(to, told)))
	}
	told[s] = most
	return most
}
