package dfa

import "slices"

// kinds: of each state, and of Dead behind them all, a number that it shares with just those from which the same bytes lead to an end.
func (a *Auto) kinds() []int {
	p := whole(a.Len() + 1)
	for s := range a.Len() {
		if a.Ends(s) {
			p.mark(s)
		}
	}
	p.cut()
	ways := a.waysBack()
	// A piece that was gone by already is cut in two; to go by the smaller one, which is put behind all, does then: so each state comes up seldom.
	for i := 0; i < len(p.pieces); i++ {
		to := slices.Clone(p.statesOf(i))
		for _, w := range ways {
			for _, s := range to {
				w.each(s, p.mark)
			}
			p.cut()
		}
	}
	return p.in
}

// wayBack tells from which states one is reached by the bytes of a class: from the last of these, and from one to the one ahead of it.
type wayBack struct {
	last  []int
	ahead []int
}

// none is what stands ahead of the first one.
const none = -1

// waysBack: those of all classes.
func (a *Auto) waysBack() []wayBack {
	var out []wayBack
	var met [256]bool
	for c, k := range a.Classes {
		if !met[k] {
			met[k] = true
			out = append(out, a.wayBack(byte(c)))
		}
	}
	return out
}

// wayBack: the one of a byte's class.
func (a *Auto) wayBack(c byte) wayBack {
	many := a.Len() + 1
	w := wayBack{last: slices.Repeat([]int{none}, many), ahead: make([]int, many)}
	for s := range many {
		behind := a.on(s, c)
		w.ahead[s] = w.last[behind]
		w.last[behind] = s
	}
	return w
}

// each: the states from which one is reached are handed to a function.
func (w wayBack) each(s int, hand func(int)) {
	for from := w.last[s]; from != none; from = w.ahead[from] {
		hand(from)
	}
}

// parts are states that are cut into pieces.
type parts struct {
	states  []int // those of a piece stand beside each other
	place   []int // of each state, where it stands there
	in      []int // of each state, in which piece it is
	pieces  []piece
	touched []int // the pieces that have marked states
}

// piece tells where the states of one begin and end, and where those that aren't marked begin.
type piece struct{ begin, plain, end int }

// whole: so many states, all in one piece.
func whole(many int) *parts {
	p := &parts{in: make([]int, many), pieces: []piece{{end: many}}}
	for s := range many {
		p.states = append(p.states, s)
		p.place = append(p.place, s)
	}
	return p
}

// statesOf: the states of a piece.
func (p *parts) statesOf(i int) []int { return p.states[p.pieces[i].begin:p.pieces[i].end] }

// mark: a state goes to those of its piece that are marked, if it isn't one of them.
func (p *parts) mark(s int) {
	i := p.in[s]
	of := &p.pieces[i]
	at := p.place[s]
	if at < of.plain {
		return
	}
	if of.plain == of.begin {
		p.touched = append(p.touched, i)
	}
	other := p.states[of.plain]
	p.states[at], p.states[of.plain] = other, s
	p.place[other], p.place[s] = at, of.plain
	of.plain++
}

// cut: each piece is cut in two, the marked states and the others; then none is marked.
func (p *parts) cut() {
	for _, i := range p.touched {
		p.cutOne(i)
	}
	p.touched = p.touched[:0]
}

// cutOne: likewise of one piece; the smaller one of both is put behind all pieces.
func (p *parts) cutOne(i int) {
	of := p.pieces[i]
	marked := piece{of.begin, of.begin, of.plain}
	others := piece{of.plain, of.plain, of.end}
	more, less := marked, others
	if marked.end-marked.begin < others.end-others.begin {
		more, less = others, marked
	}
	p.pieces[i] = more
	if less.begin == less.end {
		return // all were marked
	}
	p.pieces = append(p.pieces, less)
	for _, s := range p.states[less.begin:less.end] {
		p.in[s] = len(p.pieces) - 1
	}
}
