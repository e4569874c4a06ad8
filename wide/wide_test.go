package wide_test

import (
	"math"
	"math/big"
	"slices"
	"strings"
	"testing"

	"guipure/api"
	"guipure/wide"
)

const most = math.MaxUint64

// numbers: those about some powers of 2 and of 10, and other edges.
func numbers() []uint64 {
	out := []uint64{3, 7, 23, 6700417, 641, most, most - 1, most / 2, most / 3, most / 10, most/10 + 1}
	for _, i := range []int{0, 1, 4, 8, 31, 32, 33, 62, 63} {
		p := uint64(1) << i
		out = append(out, p-1, p, p+1)
	}
	p := uint64(1)
	for range 19 {
		p *= 10
		out = append(out, p-1, p)
	}
	slices.Sort(out)
	return slices.Compact(out)
}

// edges: a few of them, for threes.
func edges() []uint64 {
	return []uint64{0, 1, 2, 3, 7, 23, 1<<32 - 1, 1 << 32, 1<<63 - 1, 1 << 63, most / 3, most - 1, most}
}

func whole(n uint64) *big.Int { return new(big.Int).SetUint64(n) }

// told: a number without end as P4.1 has it.
func told(n *big.Int) (uint64, api.Errno) {
	if !n.IsUint64() {
		return 0, api.ErrOver
	}
	return n.Uint64(), api.OK
}

// P4.1

func TestAddSubMul(t *testing.T) {
	ways := []struct {
		name string
		call func(a, b uint64) (uint64, api.Errno)
		want func(z, a, b *big.Int) *big.Int
	}{
		{"Add", wide.Add, (*big.Int).Add},
		{"Sub", wide.Sub, (*big.Int).Sub},
		{"Mul", wide.Mul, (*big.Int).Mul},
	}
	for _, w := range ways {
		for _, a := range numbers() {
			for _, b := range numbers() {
				want, wantE := told(w.want(new(big.Int), whole(a), whole(b)))
				if got, e := w.call(a, b); got != want || e != wantE {
					t.Errorf("%s of %d, %d: %d %v, want %d %v", w.name, a, b, got, e, want, wantE)
				}
			}
		}
	}
}

func TestNamedEdges(t *testing.T) {
	wants := []struct {
		name string
		call func(a, b uint64) (uint64, api.Errno)
		a, b uint64
		n    uint64
		e    api.Errno
	}{
		{"Add", wide.Add, most, 0, most, api.OK},
		{"Add", wide.Add, most, 1, 0, api.ErrOver},
		{"Add", wide.Add, 1 << 63, 1 << 63, 0, api.ErrOver},
		{"Sub", wide.Sub, 5, 5, 0, api.OK},
		{"Sub", wide.Sub, 5, 6, 0, api.ErrOver},
		{"Sub", wide.Sub, 0, most, 0, api.ErrOver},
		{"Mul", wide.Mul, 1 << 32, 1<<32 - 1, 1<<64 - 1<<32, api.OK},
		{"Mul", wide.Mul, 1 << 32, 1 << 32, 0, api.ErrOver},
		{"Mul", wide.Mul, 641, 6700417, 1<<32 + 1, api.OK},
		{"Mul", wide.Mul, 0, most, 0, api.OK},
	}
	for _, w := range wants {
		if n, e := w.call(w.a, w.b); n != w.n || e != w.e {
			t.Errorf("%s of %d, %d: %d %v, want %d %v", w.name, w.a, w.b, n, e, w.n, w.e)
		}
	}
}

func TestSum(t *testing.T) {
	wants := []struct {
		list []uint64
		n    uint64
		e    api.Errno
	}{
		{nil, 0, api.OK},
		{[]uint64{}, 0, api.OK},
		{[]uint64{0}, 0, api.OK},
		{[]uint64{most}, most, api.OK},
		{[]uint64{1, 2, 3, 4}, 10, api.OK},
		{[]uint64{most - 3, 1, 2}, most, api.OK},
		{[]uint64{most - 3, 1, 3}, 0, api.ErrOver},
		{[]uint64{1, most, 5, 6}, 0, api.ErrOver}, // what comes behind can't mend it
		{[]uint64{most, most, most}, 0, api.ErrOver},
		{[]uint64{1 << 63, 1 << 63}, 0, api.ErrOver},
	}
	for _, w := range wants {
		kept := slices.Clone(w.list)
		if n, e := wide.Sum(w.list...); n != w.n || e != w.e || !slices.Equal(w.list, kept) {
			t.Errorf("Sum of %d: %d %v, want %d %v", kept, n, e, w.n, w.e)
		}
	}
}

// line: mul times x, and add more.
func line(mul, x, add uint64) (uint64, api.Errno) {
	n := new(big.Int).Mul(whole(mul), whole(x))
	return told(n.Add(n, whole(add)))
}

func TestLine(t *testing.T) {
	for _, mul := range edges() {
		for _, x := range edges() {
			for _, add := range edges() {
				want, wantE := line(mul, x, add)
				if got, e := wide.Line(mul, x, add); got != want || e != wantE {
					t.Errorf("Line of %d, %d, %d: %d %v, want %d %v", mul, x, add, got, e, want, wantE)
				}
			}
		}
	}
	if n, e := wide.Line(3, 7, 2); n != 23 || e != api.OK {
		t.Errorf("three times 7, and 2 more: %d %v", n, e)
	}
}

// solve: what P4.1 says of it.
func solve(mul, y, add uint64) (uint64, api.Errno) {
	left := new(big.Int).Sub(whole(y), whole(add))
	if left.Sign() < 0 {
		return 0, api.ErrOver
	}
	if mul == 0 {
		return 0, api.ErrMissing
	}
	x, rest := new(big.Int).QuoRem(left, whole(mul), new(big.Int))
	if rest.Sign() != 0 {
		return 0, api.ErrMissing
	}
	return x.Uint64(), api.OK
}

func TestSolve(t *testing.T) {
	for _, mul := range edges() {
		for _, y := range edges() {
			for _, add := range edges() {
				want, wantE := solve(mul, y, add)
				if got, e := wide.Solve(mul, y, add); got != want || e != wantE {
					t.Errorf("Solve of %d, %d, %d: %d %v, want %d %v", mul, y, add, got, e, want, wantE)
				}
				if n, e := wide.Line(mul, y, add); e == api.OK && mul > 0 {
					if back, e := wide.Solve(mul, n, add); back != y || e != api.OK {
						t.Errorf("Solve of %d, %d, %d: %d %v, want %d", mul, n, add, back, e, y)
					}
				}
			}
		}
	}
}

func TestSolveNamedEdges(t *testing.T) {
	wants := []struct {
		mul, y, add uint64
		n           uint64
		e           api.Errno
	}{
		{3, 23, 2, 7, api.OK},
		{3, 22, 2, 0, api.ErrMissing},
		{3, 2, 2, 0, api.OK},
		{3, 1, 2, 0, api.ErrOver},
		{0, 1, 2, 0, api.ErrOver}, // Sub's error comes first
		{0, 2, 2, 0, api.ErrMissing},
		{0, 3, 2, 0, api.ErrMissing},
		{1, most, 0, most, api.OK},
		{most, most, 0, 1, api.OK},
		{most, most, 1, 0, api.ErrMissing},
	}
	for _, w := range wants {
		if n, e := wide.Solve(w.mul, w.y, w.add); n != w.n || e != w.e {
			t.Errorf("Solve of %d, %d, %d: %d %v, want %d %v", w.mul, w.y, w.add, n, e, w.n, w.e)
		}
	}
}

// P4.2

func TestEval(t *testing.T) {
	for _, mul := range edges() {
		for _, x := range edges() {
			for _, add := range edges() {
				e := api.Expr{Reg: "n", Mul: mul, Add: add}
				want, wantE := line(mul, x, add)
				if got, err := wide.Eval(e, x); got != want || err != wantE {
					t.Errorf("Eval of %d*n + %d, %d: %d %v, want %d %v", mul, add, x, got, err, want, wantE)
				}
				e.Reg = "" // whatever it would be multiplied by
				if got, err := wide.Eval(e, x); got != add || err != api.OK {
					t.Errorf("Eval of %d, without a name: %d %v", add, got, err)
				}
			}
		}
	}
	if n, e := wide.Eval(api.Expr{Reg: "\xff no name", Mul: 2, Add: 1}, 4); n != 9 || e != api.OK {
		t.Errorf("Eval: %d %v", n, e)
	}
}

func TestInt(t *testing.T) {
	for _, n := range numbers() {
		for _, m := range []int{math.MinInt, -2, -1, 0, 1, 9, 1 << 32, math.MaxInt - 1, math.MaxInt} {
			want, wantE := int(n), api.OK
			if whole(n).Cmp(big.NewInt(int64(m))) > 0 {
				want, wantE = 0, api.ErrOver
			}
			if got, e := wide.Int(n, m); got != want || e != wantE {
				t.Errorf("Int of %d, %d: %d %v, want %d %v", n, m, got, e, want, wantE)
			}
		}
	}
	if n, e := wide.Int(0, -1); n != 0 || e != api.ErrOver {
		t.Errorf("Int of 0, -1: %d %v", n, e)
	}
}

func TestWithin(t *testing.T) {
	for _, low := range edges() {
		for _, high := range edges() {
			for _, n := range edges() {
				want := !(n < low) && !(n > high)
				if got := wide.Within(n, low, high); got != want {
					t.Errorf("Within of %d, %d, %d: %t", n, low, high, got)
				}
			}
		}
	}
	if !wide.Within(5, 5, 5) || wide.Within(5, 6, 4) || !wide.Within(most, 0, most) {
		t.Error("Within")
	}
}

// P4.3

func TestDigitsAndBack(t *testing.T) {
	for _, n := range numbers() {
		s := wide.Digits(n)
		if want := whole(n).String(); s != want {
			t.Errorf("Digits of %d: %q", n, s)
		}
		if back, e := wide.Parse(whole(n).String()); back != n || e != api.OK {
			t.Errorf("Parse of %d: %d %v", n, back, e)
		}
	}
	if wide.Digits(0) != "0" || wide.Digits(most) != "18446744073709551615" {
		t.Error("Digits")
	}
}

func TestParseRefuses(t *testing.T) {
	wants := map[string]api.Errno{
		"18446744073709551615":            api.OK,
		"18446744073709551616":            api.ErrOver,
		"18446744073709551620":            api.ErrOver,
		"99999999999999999999":            api.ErrOver,
		"184467440737095516150":           api.ErrOver,
		"1" + strings.Repeat("0", 100000): api.ErrOver,
		strings.Repeat("9", 30) + "x":     api.ErrForm, // of its form it is asked first
		"018446744073709551616":           api.ErrForm,
		"0" + strings.Repeat("9", 30):     api.ErrForm,
		"":                                api.ErrForm,
		"00":                              api.ErrForm,
		"01":                              api.ErrForm,
		"-1":                              api.ErrForm,
		"+1":                              api.ErrForm,
		"-0":                              api.ErrForm,
		" 1":                              api.ErrForm,
		"1 ":                              api.ErrForm,
		"1\n":                             api.ErrForm,
		"1_000":                           api.ErrForm,
		"1.0":                             api.ErrForm,
		"0x1":                             api.ErrForm,
		"1e3":                             api.ErrForm,
		"a":                               api.ErrForm,
		"1\x00":                           api.ErrForm,
		"\xff":                            api.ErrForm,
		"\u0661":                          api.ErrForm, // a digit, but none of these
		"\uff11":                          api.ErrForm,
	}
	for s, want := range wants {
		n, e := wide.Parse(s)
		if e != want || e != api.OK && n != 0 || e == api.OK && whole(n).String() != s {
			t.Errorf("Parse of %.40q: %d %v, want %v", s, n, e, want)
		}
	}
	for c := range 256 {
		for _, s := range []string{string([]byte{byte(c)}), string([]byte{'1', byte(c), '1'})} {
			_, e := wide.Parse(s)
			if digit := '0' <= c && c <= '9'; digit != (e == api.OK) || !digit && e != api.ErrForm {
				t.Errorf("Parse of %q: %v", s, e)
			}
		}
	}
}
