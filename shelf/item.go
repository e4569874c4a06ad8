package shelf

import (
	"sync"
	"sync/atomic"

	"guipure/api"
	"guipure/cost"
	"guipure/emit"
	"guipure/lower"
	"guipure/parse"
	"guipure/show"
)

// Item is a specification, and what is made of it.
type Item struct {
	cost.Meter
	once     sync.Once
	fromText bool
	text     string   // till the specification is read of it
	spec     api.Spec // none behind a fault
	result   *lower.Result
	writer   *emit.Writer
	bound    cost.Bound
	fault    api.Fault // the first thing that is wrong
	calls    atomic.Int64
	made     atomic.Int64
}

// asked: one of the calls that make the item is made; what is wrong with it.
func (x *Item) asked() api.Fault {
	x.calls.Add(1)
	x.once.Do(x.build)
	return x.fault
}

// build: the item is made. What isn't needed any more isn't kept.
func (x *Item) build() {
	x.made.Add(1)
	x.fault = x.all()
	x.text = ""
	if x.fault.Code != api.OK {
		x.spec = api.Spec{}
	}
}

// all: what is made of the specification, one thing behind the other, up to a fault.
func (x *Item) all() (f api.Fault) {
	if x.fromText {
		if x.spec, f = parse.Parse(x.text); f.Code != api.OK {
			return f
		}
	}
	if x.result, f = lower.Make(x.spec); f.Code != api.OK {
		return f
	}
	if x.writer, f = emit.New(x.spec); f.Code != api.OK {
		return f
	}
	x.bound, f = cost.Of(x.spec)
	return f
}

// Check: what is wrong with an item.
func (x *Item) Check() api.Fault { return x.asked() }

// Scan: the tree that bytes are, by an item.
func (x *Item) Scan(b []byte, caps api.Caps) (api.Tree, api.Fault) {
	if f := x.asked(); f.Code != api.OK {
		return api.Tree{}, f
	}
	return x.Meter.Scan(x.result, b, caps)
}

// Write: the bytes of a tree, by an item, and it filled in.
func (x *Item) Write(t api.Tree, most int) ([]byte, api.Tree, api.Fault) {
	if f := x.asked(); f.Code != api.OK {
		return nil, api.Tree{}, f
	}
	return x.writer.Write(t, most)
}

// Bound: what reading by an item costs at most.
func (x *Item) Bound() (cost.Bound, api.Fault) {
	f := x.asked()
	return x.bound, f // none, if something is wrong
}

// Source: an item's specification as a text; empty, if it is wrong.
func (x *Item) Source() string {
	x.asked()
	return show.Text(x.spec) // none, and so no text, if something is wrong
}

// Made: how often it was asked, and how often it was made.
func (x *Item) Made() (int, int) { return int(x.calls.Load()), int(x.made.Load()) }
