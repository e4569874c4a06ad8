package wire

import (
	"strings"

	"guipure/api"
	"guipure/shelf"
	"guipure/tree"
	"guipure/wide"
)

const (
	blank   = " "
	newline = "\n"
	mostCap = 1 << 30
)

// Run: lines, one by one: what they say.
func (e *Engine) Run(lines ...string) []string { return done(lines, e.Do) }

// done: what doing each line says, in order.
func done(lines []string, do func(string) string) []string {
	out := make([]string, len(lines))
	for i, line := range lines {
		out[i] = do(line)
	}
	return out
}

// Do: what a line tells is done: what it says.
func (e *Engine) Do(line string) string {
	said, f := e.do(line)
	if f.Code != api.OK {
		return Fault(f)
	}
	e.lines++
	return said
}

// do: likewise; or what is wrong.
func (e *Engine) do(line string) (string, api.Fault) {
	if len(line) > MaxLine {
		return "", wrong(api.ErrLong)
	}
	word, rest, _ := strings.Cut(line, blank)
	name, more, _ := strings.Cut(rest, blank)
	switch word {
	case "names":
		return e.list(rest)
	case "caps":
		return "", wrong(e.limits(rest))
	case "spec":
		return "", e.Compile(name, more)
	}
	x := e.shelf.Get(name)
	if x == nil {
		return "", wrong(api.ErrMissing)
	}
	return e.item(x, word, name, more)
}

// item: what a word tells is done with what has a name.
func (e *Engine) item(x *shelf.Item, word, name, more string) (string, api.Fault) {
	switch word {
	case "drop":
		return e.forget(name, more)
	case "show":
		return show(x)
	case "scan":
		return e.scan(name, more)
	case "feed":
		return e.pieces(name, more)
	case "write":
		return e.write(name, more)
	case "cost":
		return cost(x)
	}
	return "", wrong(api.ErrForm)
}

// list: all names, if there is no rest.
func (e *Engine) list(rest string) (string, api.Fault) {
	if rest != "" {
		return "", wrong(api.ErrForm)
	}
	return strings.Join(e.Names(), blank), api.Fault{}
}

// limits: the caps are others.
func (e *Engine) limits(rest string) api.Errno {
	var n [3]int
	parts := strings.Split(rest, blank)
	if len(parts) != len(n) {
		return api.ErrForm
	}
	for i, part := range parts {
		x, code := wide.Parse(part)
		if code == api.OK {
			n[i], code = wide.Int(x, mostCap)
		}
		if code != api.OK {
			return code
		}
	}
	e.Limit(api.Caps{Input: n[0], Depth: n[1], Tokens: n[2]})
	return api.OK
}

// forget: a specification is kept no longer, if there is no more.
func (e *Engine) forget(name, more string) (string, api.Fault) {
	if more != "" {
		return "", wrong(api.ErrForm)
	}
	return "", wrong(e.drop(name))
}

// show: a specification, in one line.
func show(x *shelf.Item) (string, api.Fault) {
	if f := x.Check(); f.Code != api.OK {
		return "", f
	}
	text := strings.TrimSuffix(x.Source(), newline)
	return strings.ReplaceAll(text, newline, blank), api.Fault{}
}

// scan: the tree that bytes are.
func (e *Engine) scan(name, more string) (string, api.Fault) {
	b, code := Bytes(more)
	if code != api.OK {
		return "", wrong(code)
	}
	return shown(e.Scan(name, b))
}

// pieces: the tree that bytes are that come in pieces.
func (e *Engine) pieces(name, more string) (string, api.Fault) {
	var list [][]byte
	for _, part := range strings.Split(more, blank) {
		b, code := Bytes(part)
		if code != api.OK {
			return "", wrong(code)
		}
		list = append(list, b)
	}
	return shown(e.feed(name, list))
}

// shown: a tree as a text, if nothing is wrong.
func shown(t api.Tree, f api.Fault) (string, api.Fault) {
	if f.Code != api.OK {
		return "", f
	}
	return tree.Text(t), f
}

// write: the bytes of a tree, and it filled in.
func (e *Engine) write(name, more string) (string, api.Fault) {
	t, code := tree.Parse(more)
	if code != api.OK {
		return "", wrong(code)
	}
	b, filled, f := e.Serialise(name, t)
	if f.Code != api.OK {
		return "", f
	}
	return Hex(b) + blank + tree.Text(filled), f
}

// cost: what reading by a specification costs at most: steps a byte, things that are kept, how deep.
func cost(x *shelf.Item) (string, api.Fault) {
	b, f := x.Bound()
	if f.Code != api.OK {
		return "", f
	}
	n := [3]uint64{b.Steps, uint64(b.Held), uint64(b.Deep)}
	var said []string
	for _, part := range n {
		said = append(said, wide.Digits(part))
	}
	return strings.Join(said, blank), f
}
