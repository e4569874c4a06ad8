package scan

import (
	"guipure/api"
	"guipure/code"
	"guipure/wide"
)

// furthest is the byte at which a limit is at most.
const furthest = 1<<62 - 1

// begin: a part begins.
func (r *run) begin() api.Fault {
	r.place = r.in.At()
	switch {
	case len(r.parts) >= r.caps.Depth: // it is one deeper than these
		return r.wrong(api.ErrDepth)
	case r.began >= r.caps.Tokens:
		return r.wrong(api.ErrTokens)
	}
	r.began++
	return api.Fault{}
}

// open: a part begins that isn't closed so soon.
func (r *run) open() api.Fault {
	f := r.begin()
	if f.Code == api.OK {
		r.put(0)
	}
	return f
}

// put: the part that began last isn't closed; its number.
func (r *run) put(number uint64) {
	r.parts = append(r.parts, api.Tree{Num: number})
}

// close: of the parts that aren't closed the one that began last ends.
func (r *run) close() {
	last := len(r.parts) - 1
	t := r.parts[last]
	r.parts = r.parts[:last]
	r.add(t)
}

// add: a part that ended is one of what it is in; it is the whole, if that is nothing.
func (r *run) add(t api.Tree) {
	if len(r.parts) == 0 {
		r.whole = t
		return
	}
	in := &r.parts[len(r.parts)-1]
	in.Kids = append(in.Kids, t)
}

// many: how many, by a step.
func (r *run) many(s *code.Step) (uint64, api.Fault) {
	if s.A == none {
		return s.Add, api.Fault{}
	}
	n, e := wide.Line(s.Mul, r.slots[s.A], s.Add)
	if e != api.OK {
		return 0, r.wrong(e)
	}
	return n, api.Fault{}
}

// beyond: do so many bytes more go beyond the limit?
func (r *run) beyond(many uint64) bool {
	last := len(r.limits) - 1
	return last >= 0 && many > r.limits[last]-uint64(r.in.At())
}

// enter: a part that has just so many bytes.
func (r *run) enter(s *code.Step) api.Fault {
	if f := r.open(); f.Code != api.OK {
		return f
	}
	many, f := r.many(s)
	switch {
	case f.Code != api.OK:
		return f
	case r.beyond(many):
		return r.wrong(api.ErrLimit)
	}
	at := uint64(r.in.At())
	r.limits = append(r.limits, at+min(many, furthest-at))
	return api.Fault{}
}

// leave: it ends, and must be at its limit.
func (r *run) leave() api.Fault {
	last := len(r.limits) - 1
	if uint64(r.in.At()) != r.limits[last] {
		return r.wrong(api.ErrLimit)
	}
	r.limits = r.limits[:last]
	r.close()
	return api.Fault{}
}

// count: a part that has so many parts.
func (r *run) count(s *code.Step) api.Fault {
	if f := r.open(); f.Code != api.OK {
		return f
	}
	many, f := r.many(s)
	if f.Code != api.OK {
		return f
	}
	r.counts = append(r.counts, many)
	return api.Fault{}
}

// next: one of these; or there is none any more.
func (r *run) next(s *code.Step) {
	last := len(r.counts) - 1
	if r.counts[last] == 0 {
		r.counts, r.at = r.counts[:last], s.A
		return
	}
	r.counts[last]--
}

// more: is there more up to the limit, or up to the end of all bytes?
func (r *run) more() bool {
	if len(r.limits) > 0 {
		return !r.beyond(1)
	}
	return r.in.Left() > 0
}

// choose: on by a number.
func (r *run) choose(s *code.Step) api.Fault {
	x := r.slots[s.A]
	if s.Add != 0 { // the Mod
		x %= s.Add
	}
	for _, w := range s.Ways {
		if w.Value == x {
			r.at = w.To
			return api.Fault{}
		}
	}
	if s.B == none {
		return r.wrong(api.ErrCase)
	}
	r.at = s.B
	return api.Fault{}
}

// choice: a part begins, and on by the next byte, which isn't read yet.
func (r *run) choice(s *code.Step) api.Fault {
	if f := r.begin(); f.Code != api.OK {
		return f
	}
	if f := r.may(1); f.Code != api.OK {
		return f
	}
	c, _ := r.in.Peek()
	way := int(s.Bytes[c]) - 1
	if way == none {
		return r.wrong(api.ErrChoice)
	}
	r.put(uint64(way))
	r.at = s.Ways[way].To
	return api.Fault{}
}
