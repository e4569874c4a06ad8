package sample_test

import (
	"fmt"
	"math"
	"slices"
	"testing"

	"guipure/api"
	"guipure/lower"
	"guipure/parse"
	"guipure/sample"
	"guipure/scan"
	"guipure/show"
)

// numbers: a format of as many bytes as there are, each of which is a number.
func numbers(t *testing.T) sample.Format[[]int] {
	t.Helper()
	s, _ := parse.Parse("main = many u8;")
	r, f := lower.Make(s)
	if f.Code != api.OK {
		t.Fatal(f)
	}
	cut := func(b []byte) ([]int, bool) {
		var out []int
		for _, c := range b {
			out = append(out, int(c))
		}
		return out, true
	}
	read := func(b []byte, caps api.Caps) ([]int, api.Fault) {
		if _, _, f := scan.Scan(r, b, caps); f.Code != api.OK {
			return nil, f
		}
		out, _ := cut(b)
		return out, api.Fault{}
	}
	text := func(list []int) string { return fmt.Sprint(list) }
	return sample.Format[[]int]{Read: read, Program: r, Cut: cut, Same: slices.Equal[[]int], Text: text}
}

// wantTold tells if a trial doesn't answer a fault, or doesn't tell what is wrong so.
func wantTold(t *testing.T, x sample.Format[[]int], b []byte, caps api.Caps, fault api.Fault, want string) {
	t.Helper()
	if f, told := x.Try(b, caps); f != fault || told != want {
		t.Errorf("%v, %q, want %v, %q", f, told, fault, want)
	}
}

func TestTryOfRightOnes(t *testing.T) {
	x := numbers(t)
	for _, b := range [][]byte{nil, {0}, {1, 255}} {
		wantTold(t, x, b, sample.Ample(), api.Fault{}, "")
	}
	few := api.Caps{Input: 5, Depth: 5, Tokens: 2}
	wantTold(t, x, []byte{1, 2, 3}, few, api.Fault{Code: api.ErrTokens, At: 1}, "")
}

// What is wrong is told by what was read, under which caps, what was answered, and what should have been.
func TestTryOfWrongOnes(t *testing.T) {
	b := []byte{0, 10, 255}
	for _, caps := range []api.Caps{sample.Ample(), {Input: math.MaxInt, Depth: 7, Tokens: 99}} {
		lies := api.Fault{Code: api.ErrSum, At: 12}
		x := numbers(t)
		x.Read = func([]byte, api.Caps) ([]int, api.Fault) { return nil, lies }
		wantTold(t, x, b, caps, lies, fmt.Sprintf("%x, %+v: %v, want %v", b, caps, lies, api.Fault{}))
		wantTold(t, x, nil, caps, lies, fmt.Sprintf("%x, %+v: %v, want %v", []byte(nil), caps, lies, api.Fault{}))

		x = numbers(t)
		x.Cut = func([]byte) ([]int, bool) { return nil, false }
		wantTold(t, x, b, caps, api.Fault{}, fmt.Sprintf("%x, %+v: %v, but %v", b, caps, api.Fault{}, false))

		for _, other := range [][]int{nil, {0, 10}, {0, 10, 254}} {
			x = numbers(t)
			x.Read = func([]byte, api.Caps) ([]int, api.Fault) { return other, api.Fault{} }
			wantTold(t, x, b, caps, api.Fault{}, fmt.Sprintf("%x, %+v: %v, want %v", b, caps, other, []int{0, 10, 255}))
		}

		x = numbers(t)
		read := x.Read
		x.Read = func(b []byte, caps api.Caps) ([]int, api.Fault) {
			out, f := read(b, caps)
			b[0] = 0xcd
			return out, f
		}
		x.Cut = func([]byte) ([]int, bool) { return []int{0, 10, 255}, true }
		wantTold(t, x, slices.Clone(b), caps, api.Fault{}, fmt.Sprintf("%x has become %x", b, []byte{0xcd, 10, 255}))
	}
	few := api.Caps{Input: -5, Depth: 5, Tokens: -2}
	_, _, f := scan.Scan(numbers(t).Program, b, few)
	x := numbers(t)
	x.Read = func([]byte, api.Caps) ([]int, api.Fault) { return []int{7}, f }
	wantTold(t, x, b, few, f, fmt.Sprintf("%x, %+v: %v, want %v", b, few, []int{7}, []int(nil)))
}

func TestSource(t *testing.T) {
	read := func(text string) func() api.Spec {
		return func() api.Spec {
			s, _ := parse.Parse(text)
			return s
		}
	}
	const right = "main = { n: u8; };\n"
	other, _ := parse.Parse("main = u8;\n")
	_, wrong := parse.Parse("main = u8")
	for _, w := range []struct {
		text   string
		answer func() api.Spec
		want   string
	}{
		{right, read(right), ""},
		{right, func() api.Spec { return other }, "another one: " + show.Text(other)},
		{"main=u8;", read("main=u8;"), fmt.Sprintf("%v, %s", api.Fault{}, "main = u8;\n")},
		{"main = u8", read("main = u8"), fmt.Sprintf("%v, %s", wrong, "")},
	} {
		if got := sample.Source(w.text, w.answer); got != w.want {
			t.Errorf("%q: %q, want %q", w.text, got, w.want)
		}
	}
	kept, _ := parse.Parse(right)
	if got := sample.Source(right, func() api.Spec { return kept }); got == "" { // it isn't answered anew
		t.Error("what is the same each time is right")
	}
}
