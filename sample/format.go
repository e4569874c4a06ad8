package sample

import (
	"bytes"
	"slices"
	"strconv"

	"guipure/api"
	"guipure/lower"
	"guipure/parse"
	"guipure/scan"
	"guipure/show"
	"guipure/spec"
)

// Format is a format that is tried: what reads it, by which program that must be done, what tells by itself what bytes are (false: they aren't of the format), and how that is told.
type Format[T any] struct {
	Read    func(b []byte, caps api.Caps) (T, api.Fault)
	Program *lower.Result
	Cut     func(b []byte) (T, bool)
	Same    func(a, b T) bool
	Text    func(x T) string
}

// Try: bytes are read: the fault, and what is wrong with what was answered; empty: nothing.
func (x Format[T]) Try(b []byte, caps api.Caps) (api.Fault, string) {
	was := slices.Clone(b)
	got, f := x.Read(b, caps)
	_, _, want := scan.Scan(x.Program, b, caps)
	list, ok := x.Cut(b)
	if f.Code != api.OK {
		list = *new(T)
	}
	resource := f.Code == api.ErrInput || f.Code == api.ErrDepth || f.Code == api.ErrTokens
	switch {
	case f != want:
		return f, asked(b, caps) + faultText(f) + ", want " + faultText(want)
	case !resource && ok != (f.Code == api.OK):
		return f, asked(b, caps) + faultText(f) + ", but " + strconv.FormatBool(ok)
	case !x.Same(got, list):
		return f, asked(b, caps) + x.Text(got) + ", want " + x.Text(list)
	case !bytes.Equal(b, was):
		return f, hex(was) + " has become " + hex(b)
	}
	return f, ""
}

// Source tells what is wrong with what answers the specification of a text, which is as it is shown, each time anew; empty: nothing.
func Source(text string, answer func() api.Spec) string {
	s, f := parse.Parse(text)
	if f.Code != api.OK || show.Text(s) != text {
		return faultText(f) + ", " + show.Text(s)
	}
	for range 2 {
		x := answer()
		if !spec.Same(x, s) {
			return "another one: " + show.Text(x)
		}
		clear(x.Defs)
		for i := range x.Nodes {
			clear(x.Nodes[i].Kids)
			clear(x.Nodes[i].Fields)
			clear(x.Nodes[i].Cases)
			clear(x.Nodes[i].Last)
			x.Nodes[i] = api.Node{}
		}
	}
	return ""
}
