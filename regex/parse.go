package regex

import (
	"strings"

	"guipure/api"
	"guipure/wide"
)

// repeats are the first bytes of what tells how often something may come.
const repeats = "*+?{"

// reader reads a text from the left on, up to the first thing that is wrong.
type reader struct {
	text  string
	at    int
	nodes int // how many expressions were made
	fault api.Fault
}

// Parse: the expression of a text; or what is wrong with it, and at which byte.
func Parse(text string) (api.Regex, api.Fault) {
	if len(text) > MaxText {
		return api.Regex{}, api.Fault{Code: api.ErrLong}
	}
	r := reader{text: text}
	n, ok := r.either(0)
	if ok && r.at < len(text) {
		ok = r.fail(api.ErrForm, r.at) // a `)` that nothing was opened for
	}
	if !ok {
		return api.Regex{}, r.fault
	}
	return n, api.Fault{}
}

// fail: what is wrong, and at which byte.
func (r *reader) fail(code api.Errno, at int) bool {
	r.fault = api.Fault{Code: code, At: at}
	return false
}

// next: the next byte; 0, which can't stand anywhere, at the end.
func (r *reader) next() byte {
	if r.at == len(r.text) {
		return 0
	}
	return r.text[r.at]
}

// took: was the next byte this one? Then it is read.
func (r *reader) took(c byte) bool {
	if r.next() != c {
		return false
	}
	r.at++
	return true
}

// must: likewise, and it is wrong, if it isn't.
func (r *reader) must(c byte) bool {
	return r.took(c) || r.fail(api.ErrForm, r.at)
}

// made: an expression more, if that isn't too many.
func (r *reader) made(n api.Regex) (api.Regex, bool) {
	r.nodes++
	if r.nodes > MaxNodes {
		return api.Regex{}, r.fail(api.ErrLong, r.at)
	}
	return n, true
}

// joined: some expressions as one of a kind; a single one as it is.
func (r *reader) joined(kind int, kids []api.Regex) (api.Regex, bool) {
	if len(kids) == 1 {
		return kids[0], true
	}
	return r.made(api.Regex{Kind: kind, Kids: kids})
}

// either: a text that stands so deep within parentheses.
func (r *reader) either(deep int) (api.Regex, bool) {
	if deep > MaxDeep {
		return api.Regex{}, r.fail(api.ErrDeep, r.at)
	}
	var kids []api.Regex
	for {
		kid, ok := r.behindEachOther(deep)
		if !ok {
			return api.Regex{}, false
		}
		kids = append(kids, kid)
		if !r.took('|') {
			return r.joined(api.Alt, kids)
		}
	}
}

// behindEachOther: what stands between two bars.
func (r *reader) behindEachOther(deep int) (api.Regex, bool) {
	var kids []api.Regex
	for r.at < len(r.text) && r.next() != '|' && r.next() != ')' {
		kid, ok := r.repeated(deep)
		if !ok {
			return api.Regex{}, false
		}
		kids = append(kids, kid)
	}
	if len(kids) == 0 {
		return r.made(api.Regex{Kind: api.Nothing})
	}
	return r.joined(api.Cat, kids)
}

// repeated: one expression, and how often it may come.
func (r *reader) repeated(deep int) (api.Regex, bool) {
	n, ok := r.one(deep)
	for ok && strings.IndexByte(repeats, r.next()) >= 0 {
		var low, high int
		if low, high, ok = r.times(); ok {
			n, ok = r.made(api.Regex{Kind: api.Repeat, Kids: []api.Regex{n}, Min: low, Max: high})
		}
	}
	return n, ok
}

// times: the Min and the Max that stand next.
func (r *reader) times() (int, int, bool) {
	sign := r.next()
	r.at++
	switch sign {
	case '*':
		return 0, endless, true
	case '+':
		return 1, endless, true
	case '?':
		return 0, 1, true
	}
	return r.bounds()
}

// bounds: likewise behind a `{`.
func (r *reader) bounds() (int, int, bool) {
	begin := r.at
	low, ok := r.number()
	if !ok {
		return 0, 0, false
	}
	high := low
	if r.took(',') {
		high = endless
		if r.next() != '}' {
			if high, ok = r.number(); !ok {
				return 0, 0, false
			}
			if high < low {
				return 0, 0, r.fail(api.ErrRange, begin)
			}
		}
	}
	return low, high, r.must('}')
}

// number: all digits that stand next, as a number that isn't too great.
func (r *reader) number() (int, bool) {
	begin := r.at
	for '0' <= r.next() && r.next() <= '9' {
		r.at++
	}
	n, e := wide.Parse(r.text[begin:r.at])
	small, over := wide.Int(n, MaxRepeat)
	switch {
	case e == api.ErrForm:
		return 0, r.fail(api.ErrForm, begin)
	case e != api.OK || over != api.OK:
		return 0, r.fail(api.ErrRange, begin)
	}
	return small, true
}

// one: what stands ahead of how often it may come.
func (r *reader) one(deep int) (api.Regex, bool) {
	if r.took('(') {
		n, ok := r.either(deep + 1)
		return n, ok && r.must(')')
	}
	set, ok := r.set()
	if !ok {
		return api.Regex{}, false
	}
	return r.made(api.Regex{Kind: api.One, Set: set})
}
