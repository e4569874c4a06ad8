package cost

import (
	"sync/atomic"

	"guipure/api"
	"guipure/feed"
	"guipure/lower"
	"guipure/scan"
)

// Meter counts what reading cost; the zero one has counted nothing.
type Meter struct {
	scans, faults, bytes, steps, pieces atomic.Uint64
}

// Counts are what a meter counted.
type Counts struct{ Scans, Faults, Bytes, Steps, Pieces uint64 }

// Scan: layer 21's, counted.
func (m *Meter) Scan(r *lower.Result, b []byte, caps api.Caps) (api.Tree, api.Fault) {
	t, steps, f := scan.Scan(r, b, caps)
	m.count(len(b), steps, f)
	return t, f
}

// Feed: bytes in pieces, counted; those behind what is wrong, too.
func (m *Meter) Feed(r *lower.Result, caps api.Caps, pieces ...[]byte) (api.Tree, api.Fault) {
	in := feed.New(r, caps)
	many := 0
	for _, b := range pieces {
		in.Feed(b...) // what is wrong End tells as well
		many += len(b)
	}
	t, f := in.End()
	m.pieces.Add(uint64(len(pieces)))
	m.count(many, in.Steps(), f)
	return t, f
}

// count: so many bytes were read once, in so many steps.
func (m *Meter) count(many, steps int, f api.Fault) {
	m.scans.Add(1)
	m.bytes.Add(uint64(many))
	m.steps.Add(uint64(steps))
	if f.Code != api.OK {
		m.faults.Add(1)
	}
}

// Counts: what was counted so far.
func (m *Meter) Counts() Counts {
	return Counts{Scans: m.scans.Load(), Faults: m.faults.Load(), Bytes: m.bytes.Load(), Steps: m.steps.Load(), Pieces: m.pieces.Load()}
}

// Reset: what was counted; nothing is any more. What others count meanwhile is counted ahead of it or behind it, and not lost.
func (m *Meter) Reset() Counts {
	return Counts{Scans: m.scans.Swap(0), Faults: m.faults.Swap(0), Bytes: m.bytes.Swap(0), Steps: m.steps.Swap(0), Pieces: m.pieces.Swap(0)}
}
