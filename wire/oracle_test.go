package wire_test

import (
	"encoding/hex"
	"fmt"
	"math/big"
	"regexp"
	"slices"
	"strings"
	"testing"

	"guipure/api"
	"guipure/cost"
	"guipure/dns"
	"guipure/emit"
	"guipure/lower"
	"guipure/parse"
	"guipure/png"
	"guipure/proto"
	"guipure/scan"
	"guipure/show"
	"guipure/tree"
	"guipure/wire"
)

// What a line, three numbers, and bytes look like.
var (
	lines   = regexp.MustCompile(`(?s)^([^ ]*)(?: ([^ ]*)(?: (.*))?)?$`)
	numbers = regexp.MustCompile(`^caps (0|[1-9][0-9]*) (0|[1-9][0-9]*) (0|[1-9][0-9]*)$`)
	rows    = regexp.MustCompile(`^(_|([0-9a-f]{2})+)$`)
	keys    = regexp.MustCompile(`^[!-~]{1,32}$`)
	words   = regexp.MustCompile(`^(drop|show|scan|feed|write|cost)$`)
)

// model does what lines tell by the layers below alone; it keeps texts alone.
type model struct {
	names []string
	texts map[string]string
	caps  api.Caps
	done  int
}

// newModel: one that keeps what comes with an engine.
func newModel() *model {
	texts := map[string]string{"png": png.Text, "proto": proto.Text, "dns": dns.Text}
	return &model{names: []string{"png", "proto", "dns"}, texts: texts, caps: api.Caps{Input: 1048576, Depth: 256, Tokens: 65536}}
}

// fault: a fault at 0.
func fault(code api.Errno) api.Fault { return api.Fault{Code: code} }

// do: what a line says.
func (m *model) do(line string) string {
	said, f := m.said(line)
	if f != (api.Fault{}) {
		return fmt.Sprintf("error %d at %d", int(f.Code), f.At)
	}
	m.done++
	return said
}

// said: likewise; or what is wrong.
func (m *model) said(line string) (string, api.Fault) {
	parts := lines.FindStringSubmatch(line)
	word, name, more := parts[1], parts[2], parts[3]
	text, there := m.texts[name]
	switch {
	case len(line) > 131072:
		return "", fault(api.ErrLong)
	case line == "names":
		return strings.Join(m.names, " "), api.Fault{}
	case word == "names":
		return "", fault(api.ErrForm)
	case word == "caps":
		return "", m.limit(line)
	case word == "spec":
		return "", m.compile(name, more)
	case !there:
		return "", fault(api.ErrMissing)
	case !words.MatchString(word), word == "drop" && more != "":
		return "", fault(api.ErrForm)
	case word == "drop":
		delete(m.texts, name)
		m.names = slices.DeleteFunc(m.names, func(n string) bool { return n == name })
		return "", api.Fault{}
	}
	return m.item(word, text, more)
}

// limit: the caps are others.
func (m *model) limit(line string) api.Fault {
	parts := numbers.FindStringSubmatch(line)
	if parts == nil {
		return fault(api.ErrForm)
	}
	var n [3]int
	for i, digits := range parts[1:] {
		x, _ := new(big.Int).SetString(digits, 10)
		if x.Cmp(big.NewInt(1<<30)) > 0 {
			return fault(api.ErrOver)
		}
		n[i] = int(x.Int64())
	}
	m.caps = api.Caps{Input: n[0], Depth: n[1], Tokens: n[2]}
	return api.Fault{}
}

// compile: a specification more.
func (m *model) compile(name, text string) api.Fault {
	switch {
	case !keys.MatchString(name):
		return fault(api.ErrForm)
	case slices.Contains(m.names, name):
		return fault(api.ErrTwice)
	case len(m.names) >= 64:
		return fault(api.ErrLong)
	}
	m.names, m.texts[name] = append(m.names, name), text
	return made(text).fault
}

// product is what is made of a text.
type product struct {
	spec    api.Spec
	program *lower.Result
	fault   api.Fault
}

// products are those that were made so far.
var products = map[string]product{}

// made: what is made of a text.
func made(text string) product {
	x, ok := products[text]
	if ok {
		return x
	}
	if x.spec, x.fault = parse.Parse(text); x.fault.Code == api.OK {
		x.program, x.fault = lower.Make(x.spec)
	}
	products[text] = x
	return x
}

// item: what is done with one of a text.
func (m *model) item(word, text, more string) (string, api.Fault) {
	x := made(text)
	given, e := tree.Parse(more)
	var all []byte
	ok := true
	for row := range strings.SplitSeq(more, " ") {
		ok = ok && rows.MatchString(row)
		b, _ := hex.DecodeString(row)
		all = append(all, b...)
	}
	switch {
	case word == "scan" && !rows.MatchString(more), word == "feed" && !ok:
		return "", fault(api.ErrForm)
	case word == "write" && e != api.OK:
		return "", fault(e)
	case x.fault != (api.Fault{}):
		return "", x.fault
	case word == "show":
		return strings.TrimSuffix(strings.ReplaceAll(show.Text(x.spec), "\n", " "), " "), api.Fault{}
	case word == "cost":
		b, _ := cost.Of(x.spec)
		return fmt.Sprint(b.Steps, b.Held, b.Deep), api.Fault{}
	case word == "write":
		w, _ := emit.New(x.spec)
		b, filled, f := w.Write(given, 65536)
		return strings.Replace(fmt.Sprintf("%x %s", b, tree.Text(filled)), " ", "_ ", 1-min(1, len(b))), f
	}
	t, _, f := scan.Scan(x.program, all, m.caps)
	return tree.Text(t), f
}

// both are an engine, and a model of it.
type both struct {
	*testing.T
	engine *wire.Engine
	model  *model
}

// newBoth: new ones.
func newBoth(t *testing.T) both { return both{t, wire.New(), newModel()} }

// do: a line, done by both, must say the same, and leave the same behind.
func (b both) do(line string) string {
	b.Helper()
	got, want := b.engine.Do(line), b.model.do(line)
	if got != want {
		b.Errorf("%.300q: %.300s, want %.300s", line, got, want)
	}
	if n := b.engine.Lines(); n != b.model.done {
		b.Errorf("%.300q: %d lines, want %d", line, n, b.model.done)
	}
	if list := b.engine.Names(); !slices.Equal(list, b.model.names) {
		b.Errorf("%.300q: %q, want %q", line, list, b.model.names)
	}
	return got
}
