package first_test

import (
	"math"
	"testing"

	"guipure/api"
	"guipure/class"
	"guipure/first"
	"guipure/leb"
	"guipure/octet"
	"guipure/sample"
	"guipure/spec"
)

// P16.2

func TestFixed(t *testing.T) {
	for _, w := range []struct {
		n    api.Node
		want class.Set
	}{
		{api.Node{Width: 1, Max: 255}, class.All()},
		{api.Node{Width: 1, Min: 3, Max: 9}, class.Range(3, 9)},
		{api.Node{Width: 1, Min: 255, Max: 255}, class.Of(255)},
		{api.Node{Width: 1}, class.Of(0)},
		{api.Node{Width: 2, Max: 65535}, class.All()},
		{api.Node{Width: 2, Max: 255}, class.Of(0)},
		{api.Node{Width: 2, Max: 256}, class.Of(0, 1)},
		{api.Node{Width: 2, Min: 0x1fff, Max: 0x2100}, class.Range(0x1f, 0x21)},
		{api.Node{Width: 2, Min: 49152, Max: 65535}, class.Range(192, 255)},
		{api.Node{Width: 4, Max: 2147483647}, class.Range(0, 127)},
		{api.Node{Width: 8, Max: math.MaxUint64}, class.All()},
		{api.Node{Width: 8, Min: math.MaxUint64, Max: math.MaxUint64}, class.Of(255)},
		{api.Node{Width: 8, Min: 1 << 56, Max: 1<<57 - 1}, class.Of(1)},
		{api.Node{Width: 8, Min: 1<<56 - 1, Max: 1 << 57}, class.Range(0, 2)},
		{api.Node{Width: 2, Little: true, Max: 65535}, class.All()},
		{api.Node{Width: 2, Little: true, Max: 254}, class.Range(0, 254)},
		{api.Node{Width: 2, Little: true, Max: 255}, class.All()},
		{api.Node{Width: 2, Little: true, Min: 1, Max: 255}, class.Range(1, 255)},
		{api.Node{Width: 2, Little: true, Min: 1, Max: 256}, class.All()},
		{api.Node{Width: 2, Little: true, Min: 0x1fe, Max: 0x201}, class.Of(254, 255, 0, 1)}, // round the end
		{api.Node{Width: 3, Little: true, Min: 0x10203, Max: 0x10205}, class.Range(3, 5)},
		{api.Node{Width: 8, Little: true, Min: math.MaxUint64 - 2, Max: math.MaxUint64}, class.Range(253, 255)},
		{api.Node{Width: 8, Little: true, Max: math.MaxUint64}, class.All()},
	} {
		w.n.Kind = api.Fixed
		if got := first.Fixed(w.n); got != w.want {
			t.Errorf("Fixed of %+v: %s, want %s", w.n, class.Text(got), class.Text(w.want))
		}
	}
}

func TestVarint(t *testing.T) {
	high := class.Range(128, 255)
	for _, w := range []struct {
		n    api.Node
		want class.Set
	}{
		{api.Node{Max: math.MaxUint64}, class.All()},
		{api.Node{Max: 127}, class.Range(0, 127)},
		{api.Node{Max: 128}, class.Range(0, 128)},
		{api.Node{Max: 130}, class.Range(0, 130)},
		{api.Node{Max: 255}, class.All()},
		{api.Node{Max: 254}, class.Range(0, 254)},
		{api.Node{Min: 9, Max: 9}, class.Of(9)},
		{api.Node{Min: 9, Max: 9, Lenient: true}, class.Of(9, 137)},
		{api.Node{Max: 3, Lenient: true}, class.Range(0, 3).Or(class.Range(128, 131))},
		{api.Node{Min: 127, Max: 128, Lenient: true}, class.Of(127, 128, 255)},
		{api.Node{Min: 300, Max: 300}, class.Of(172)},
		{api.Node{Min: 300, Max: 300, Lenient: true}, class.Of(172)},
		{api.Node{Min: 300, Max: 300, Zig: true}, class.Of(172)}, // as it is without a sign
		{api.Node{Min: 255, Max: 257}, class.Of(255, 128, 129)},  // round the end
		{api.Node{Min: 128, Max: 255}, high},
		{api.Node{Min: 129, Max: 256}, high},
		{api.Node{Min: 129, Max: 255}, class.Range(129, 255)},
		{api.Node{Min: 8, Max: 4294967295, Lenient: true}, class.Range(8, 127).Or(high)},
		{api.Node{Min: math.MaxUint64, Max: math.MaxUint64}, class.Of(255)},
		{api.Node{Min: math.MaxUint64 - 1, Max: math.MaxUint64, Zig: true, Lenient: true}, class.Of(254, 255)},
		{api.Node{Lenient: true}, class.Of(0, 128)},
		{api.Node{}, class.Of(0)},
	} {
		w.n.Kind = api.Varint
		if got := first.Varint(w.n); got != w.want {
			t.Errorf("Varint of %+v: %s, want %s", w.n, class.Text(got), class.Text(w.want))
		}
	}
}

// All numbers of small ranges, as they are written.
func TestNumbersAsTheyAreWritten(t *testing.T) {
	for _, from := range []uint64{0, 1, 100, 127, 128, 200, 255, 256, 0x17e, 0xff00, 1<<14 - 3, 1<<24 - 300, math.MaxUint64 - 2000} {
		for _, long := range []uint64{0, 1, 2, 5, 126, 127, 128, 129, 254, 255, 256, 257, 700, 2000} {
			low, to := from, from+long
			for width := 1; width <= octet.MaxWidth; width++ {
				if to > octet.Most(width) {
					continue
				}
				var big, little class.Set
				for x := low; x-low <= long; x++ {
					b, _ := octet.Put(nil, x, width, false)
					l, _ := octet.Put(nil, x, width, true)
					big, little = big.Or(class.Of(b[0])), little.Or(class.Of(l[0]))
				}
				n := api.Node{Kind: api.Fixed, Width: width, Min: low, Max: to}
				if got := first.Fixed(n); got != big {
					t.Errorf("%+v: %s, want %s", n, class.Text(got), class.Text(big))
				}
				if n.Little = true; width > 1 && first.Fixed(n) != little {
					t.Errorf("%+v: %s, want %s", n, class.Text(first.Fixed(n)), class.Text(little))
				}
			}
			wantVarints(t, low, to)
		}
	}
}

// wantVarints tells if the bytes with which Varints of a range begin aren't those that are written.
func wantVarints(t *testing.T, from, to uint64) {
	t.Helper()
	var short, long class.Set
	for x := from; x-from <= to-from; x++ {
		short = short.Or(class.Of(leb.Put(nil, x)[0]))
		for many := leb.Len(x); many <= leb.MaxLen; many++ {
			b, _ := leb.Pad(nil, x, many)
			long = long.Or(class.Of(b[0]))
		}
	}
	n := api.Node{Kind: api.Varint, Min: from, Max: to}
	if got := first.Varint(n); got != short {
		t.Errorf("%+v: %s, want %s", n, class.Text(got), class.Text(short))
	}
	if n.Lenient = true; first.Varint(n) != long {
		t.Errorf("%+v: %s, want %s", n, class.Text(first.Varint(n)), class.Text(long))
	}
}

func TestNumbersOfSamples(t *testing.T) {
	m := &sample.Maker{Seed: 18}
	met := 0
	for range 3000 {
		for _, n := range m.Spec(1).Nodes {
			if !spec.Number(n) {
				continue
			}
			met++
			got := first.Varint(n)
			if n.Kind == api.Fixed {
				got = first.Fixed(n)
			}
			if want := begins(n); got != want {
				t.Fatalf("%+v: %s, want %s", n, class.Text(got), class.Text(want))
			}
		}
	}
	if met < 500 {
		t.Errorf("only %d numbers", met)
	}
}

// P1: numbers that layer 11 doesn't let be.
func TestRawNumbers(t *testing.T) {
	ends := []uint64{0, 1, 127, 128, 129, 255, 256, 1 << 32, 1 << 63, math.MaxUint64 - 1, math.MaxUint64}
	for _, width := range []int{math.MinInt, -8, -1, 0, 1, 2, 8, 9, 64, 1 << 60, math.MaxInt} {
		for _, low := range ends {
			for _, high := range ends {
				for kind := -1; kind < 15; kind++ {
					n := api.Node{Kind: kind, Width: width, Min: low, Max: high}
					first.Fixed(n)
					n.Little = true
					first.Fixed(n)
					first.Varint(n)
					n.Lenient = true
					first.Varint(n)
				}
			}
		}
	}
}
