package scan

import (
	"guipure/api"
	"guipure/code"
	"guipure/dfa"
	"guipure/leb"
	"guipure/wide"
)

// may: may so many bytes more be read, of the part that began last?
func (r *run) may(many uint64) api.Fault {
	at := r.in.At()
	left := uint64(r.in.Left())
	room := uint64(max(r.caps.Input, 0) - at) // so many were read at most
	switch {
	case r.beyond(many):
		return api.Fault{Code: api.ErrLimit, At: r.place}
	case many <= min(left, room):
		return api.Fault{}
	case room < left: // a byte is there, where none may be read any more
		return api.Fault{Code: api.ErrInput, At: at + int(room)}
	}
	return api.Fault{Code: api.ErrEnd, At: at + int(left)}
}

// number: a number that was read.
func (r *run) number(s *code.Step, x uint64) api.Fault {
	if !wide.Within(x, s.Min, s.Max) {
		return api.Fault{Code: api.ErrValue, At: r.place}
	}
	if s.B != none {
		r.slots[s.B] = x
	}
	r.add(api.Tree{Num: x})
	return api.Fault{}
}

// data: the bytes of the part that began last, which were read.
func (r *run) data() {
	read := r.bytes[r.place:r.in.At()]
	r.add(api.Tree{Data: append([]byte(nil), read...)})
}

// fixed: a number of so many bytes.
func (r *run) fixed(s *code.Step) api.Fault {
	if f := r.begin(); f.Code != api.OK {
		return f
	}
	if f := r.may(uint64(s.A)); f.Code != api.OK {
		return f
	}
	x, _ := r.in.Number(s.A, s.Flag)
	return r.number(s, x)
}

// varint: a number of seven bits a byte.
func (r *run) varint(s *code.Step) api.Fault {
	if f := r.begin(); f.Code != api.OK {
		return f
	}
	m := leb.Meter{Lenient: s.Flag}
	for {
		if f := r.may(1); f.Code != api.OK {
			return f
		}
		c, _ := r.in.Byte()
		last, e := m.Step(c)
		switch {
		case e != api.OK:
			return api.Fault{Code: e, At: r.place}
		case last:
			return r.number(s, m.Value())
		}
	}
}

// token: bytes by an automaton, up to its first end.
func (r *run) token(s *code.Step) api.Fault {
	if f := r.begin(); f.Code != api.OK {
		return f
	}
	a, state := r.Autos[s.A], 0
	for !a.Ends(state) {
		if f := r.may(1); f.Code != api.OK {
			return f
		}
		c, _ := r.in.Peek()
		state = a.Step(state, c)
		if state == dfa.Dead {
			return r.wrong(api.ErrToken)
		}
		r.in.Skip(1)
	}
	r.data()
	return api.Fault{}
}

// blob: so many bytes.
func (r *run) blob(s *code.Step) api.Fault {
	if f := r.begin(); f.Code != api.OK {
		return f
	}
	many, f := r.many(s)
	if f.Code != api.OK {
		return f
	}
	if f := r.may(many); f.Code != api.OK {
		return f
	}
	r.in.Skip(int(many)) // so many are left
	r.data()
	return api.Fault{}
}
