package code

import "guipure/api"

// Reached: the steps that can be met from the first one on; of a program that may not be none.
func Reached(p Program) []bool {
	met := make([]bool, len(p.Steps))
	if Check(p).Code != api.OK {
		return met
	}
	met[0] = true
	for todo := []int{0}; len(todo) > 0; {
		at := todo[len(todo)-1]
		todo = todo[:len(todo)-1]
		for _, to := range leads(at, &p.Steps[at]) {
			if !met[to] {
				met[to] = true
				todo = append(todo, to)
			}
		}
	}
	return met
}

// leads: the steps that can come behind one.
func leads(at int, s *Step) []int {
	switch s.Kind {
	case Return, End:
		return nil
	case Jump:
		return []int{s.A}
	case Next, Many, Call:
		return []int{s.A, at + 1}
	case Switch, Choice:
		return forks(s)
	}
	return []int{at + 1}
}

// forks: likewise of a step that has ways.
func forks(s *Step) []int {
	var out []int
	for _, w := range s.Ways {
		out = append(out, w.To)
	}
	if s.Kind == Switch && s.B != none {
		out = append(out, s.B)
	}
	return out
}
