package show

import (
	"strings"

	"guipure/api"
	"guipure/wide"
)

// writer is the text that is written of a specification that may be.
type writer struct {
	strings.Builder
	spec api.Spec
}

// put: these words are written.
func (w *writer) put(words ...string) {
	for _, word := range words {
		w.WriteString(word)
	}
}

// kind: a type is written.
func (w *writer) kind(at int) {
	switch n := w.spec.Nodes[at]; n.Kind {
	case api.Fixed, api.Varint:
		w.put(Number(n), Range(n))
	case api.Token:
		w.put("/", n.Text, "/")
	case api.Blob:
		w.put("bytes", Expr(n.Expr))
	case api.Record:
		w.record(n)
	case api.Times:
		w.put("times", Expr(n.Expr), " ")
		w.kind(n.Kids[0])
	case api.Many:
		w.put("many ")
		w.kind(n.Kids[0])
	case api.Within:
		w.put("within", Expr(n.Expr), " ")
		w.kind(n.Kids[0])
	case api.Switch:
		w.choose(n)
	case api.Choice:
		w.among("oneof", n)
	case api.Chain:
		w.among("chain", n)
	case api.Empty:
		w.put("empty")
	case api.Use:
		w.put(n.Text)
	}
}

// record: a Record is written.
func (w *writer) record(n api.Node) {
	w.put("{")
	for _, f := range n.Fields {
		w.told(f.Name, f.Type, Derive(f))
	}
	w.put(" }")
}

// choose: a Switch is written.
func (w *writer) choose(n api.Node) {
	w.put("switch ", n.Reg)
	if n.Mod != 0 {
		w.put(" % ", wide.Digits(n.Mod))
	}
	w.put(" {")
	for _, c := range n.Cases {
		w.told(wide.Digits(c.Value), c.Type, "")
	}
	if n.Else >= 0 {
		w.told("else", n.Else, "")
	}
	w.put(" }")
}

// told: a type that something tells is written, and what is behind it.
func (w *writer) told(by string, at int, behind string) {
	w.put(" ", by, ": ")
	w.kind(at)
	w.put(behind, ";")
}

// among: a Choice or a Chain is written.
func (w *writer) among(word string, n api.Node) {
	w.put(word, " {")
	for i, kid := range n.Kids {
		if i > 0 {
			w.put(" |")
		}
		if n.Kind == api.Chain && n.Last[i] { // a Choice has no Last
			w.put(" last")
		}
		w.put(" ")
		w.kind(kid)
	}
	w.put(" }")
}
