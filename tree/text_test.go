package tree_test

import (
	"math"
	"reflect"
	"strconv"
	"strings"
	"testing"

	"guipure/api"
	"guipure/sample"
	"guipure/tree"
)

// P17.3

func TestText(t *testing.T) {
	for want, x := range map[string]api.Tree{
		"0":                    {},
		"_0":                   {Blank: true},
		"_7":                   {Num: 7, Blank: true},
		"18446744073709551615": {Num: math.MaxUint64},
		"0:00":                 data(0),
		"0:0f10ff":             data(15, 16, 255),
		"10:61":                {Num: 10, Data: []byte("a")},
		"0(0)":                 kids(num(0)),
		"0(1,2,3)":             kids(num(1), num(2), num(3)),
		"0(5,_0,0(0:6162))":    kids(num(5), api.Tree{Blank: true}, kids(data('a', 'b'))),
		"_9:abcd(0(1),2:00)":   {Num: 9, Blank: true, Data: []byte{0xab, 0xcd}, Kids: []api.Tree{kids(num(1)), {Num: 2, Data: []byte{0}}}},
	} {
		if got := tree.Text(x); got != want {
			t.Errorf("Text of %+v: %s, want %s", x, got, want)
		}
		if got, e := tree.Parse(want); e != api.OK || !reflect.DeepEqual(got, x) {
			t.Errorf("Parse of %s: %+v, %v", want, got, e)
		}
	}
	if got := tree.Text(api.Tree{Data: []byte{}, Kids: []api.Tree{}}); got != "0" {
		t.Errorf("Text of empty lists: %s", got)
	}
}

func TestParseRefuses(t *testing.T) {
	for text, want := range map[string]api.Errno{
		"":                          api.ErrForm,
		" ":                         api.ErrForm,
		" 0":                        api.ErrForm,
		"0 ":                        api.ErrForm,
		"0\n":                       api.ErrForm,
		"00":                        api.ErrForm,
		"01":                        api.ErrForm,
		"_":                         api.ErrForm,
		"__0":                       api.ErrForm,
		"0_":                        api.ErrForm,
		"_x":                        api.ErrForm,
		"_01":                       api.ErrForm,
		"-1":                        api.ErrForm,
		"+1":                        api.ErrForm,
		"0x1":                       api.ErrForm,
		"a":                         api.ErrForm,
		":61":                       api.ErrForm,
		"0:":                        api.ErrForm,
		"0:6":                       api.ErrForm,
		"0:616":                     api.ErrForm,
		"0:6g":                      api.ErrForm,
		"0:g6":                      api.ErrForm,
		"0:6A":                      api.ErrForm,
		"0:A6":                      api.ErrForm,
		"0:61:62":                   api.ErrForm,
		"0::61":                     api.ErrForm,
		"0:(0)":                     api.ErrForm,
		"0:6(0)":                    api.ErrForm,
		"(":                         api.ErrForm,
		"(0)":                       api.ErrForm,
		"0(":                        api.ErrForm,
		"0()":                       api.ErrForm,
		"0)":                        api.ErrForm,
		"0(0":                       api.ErrForm,
		"0(0,":                      api.ErrForm,
		"0(0,)":                     api.ErrForm,
		"0(,0)":                     api.ErrForm,
		"0(0,,0)":                   api.ErrForm,
		"0(0))":                     api.ErrForm,
		"0(0)0":                     api.ErrForm,
		"0(0)(0)":                   api.ErrForm,
		"0(0):61":                   api.ErrForm,
		"0(0 ,0)":                   api.ErrForm,
		"0(0;0)":                    api.ErrForm,
		"0,0":                       api.ErrForm,
		"0\x00":                     api.ErrForm,
		"\x00":                      api.ErrForm,
		"0(\x00":                    api.ErrForm,
		"\xff":                      api.ErrForm,
		"é":                         api.ErrForm,
		"0:é":                       api.ErrForm,
		"18446744073709551616":      api.ErrOver,
		"99999999999999999999999":   api.ErrOver,
		"_18446744073709551616":     api.ErrOver,
		"018446744073709551616":     api.ErrForm, // it isn't even a number
		"0(18446744073709551616)":   api.ErrOver,
		"0(1,18446744073709551616":  api.ErrOver, // from the left on
		"18446744073709551616x":     api.ErrOver,
		"18446744073709551616:":     api.ErrOver,
		"x18446744073709551616":     api.ErrForm,
		"0(x,18446744073709551616)": api.ErrForm,
		"0:6,18446744073709551616":  api.ErrForm,
		"0(18446744073709551616,x)": api.ErrOver,
	} {
		if got, e := tree.Parse(text); e != want || !reflect.DeepEqual(got, api.Tree{}) {
			t.Errorf("Parse of %q: %+v, %v, want %v", text, got, e, want)
		}
	}
}

// nested: a text of a tree that is so deep.
func nested(deep int, inner string) string {
	return strings.Repeat("0(", deep-1) + inner + strings.Repeat(")", deep-1)
}

func TestParseOfDeepOnes(t *testing.T) {
	for text, want := range map[string]api.Errno{
		nested(400, "0"):                                   api.OK,
		nested(400, "_7:00"):                               api.OK,
		nested(401, "0"):                                   api.ErrDeep,
		nested(401, "_0"):                                  api.ErrDeep,
		nested(5000, "0"):                                  api.ErrDeep,
		nested(399, "0(1,2),0(3)"):                         api.OK,
		nested(399, "0(1,2),0(3(4))"):                      api.ErrDeep,
		nested(400, "0(x)"):                                api.ErrForm, // nothing begins there
		nested(400, "0("):                                  api.ErrForm,
		nested(401, "0x"):                                  api.ErrDeep, // from the left on
		nested(402, "x"):                                   api.ErrDeep,
		"0(" + nested(399, "0") + ",x)":                    api.ErrForm,
		"0(" + nested(400, "0") + ",x)":                    api.ErrDeep,
		"0(x," + nested(400, "0") + ")":                    api.ErrForm,
		"0(18446744073709551616," + nested(400, "0") + ")": api.ErrOver,
		"0(" + nested(400, "18446744073709551616") + ",0)": api.ErrDeep,
		strings.Repeat("0(", 1<<19):                        api.ErrDeep,
		strings.Repeat("(", 1000):                          api.ErrForm,
	} {
		x, e := tree.Parse(text)
		if e != want || e == api.OK && tree.Text(x) != text || e != api.OK && !reflect.DeepEqual(x, api.Tree{}) {
			t.Errorf("%.2000s: %v, want %v", text, e, want)
		}
	}
	if x := read(t, nested(400, "0")); tree.Depth(x) != tree.MaxDeep {
		t.Errorf("%d deep", tree.Depth(x))
	}
}

func TestParseOfLongOnes(t *testing.T) {
	long := "0:" + strings.Repeat("ab", tree.MaxText/2-1)
	if len(long) != tree.MaxText {
		t.Fatalf("%d bytes", len(long))
	}
	x, e := tree.Parse(long)
	if e != api.OK || len(x.Data) != tree.MaxText/2-1 || tree.Text(x) != long {
		t.Errorf("%v, %d bytes", e, len(x.Data))
	}
	parts := "0(" + strings.Repeat("0,", tree.MaxText/2-2) + "0)"
	if x, e = tree.Parse(parts); len(parts) != tree.MaxText || e != api.OK || len(x.Kids) != tree.MaxText/2-1 || tree.Text(x) != parts {
		t.Errorf("%v, %d parts", e, len(x.Kids))
	}
	for _, text := range []string{long + "0", parts + "0", strings.Repeat("x", tree.MaxText+1), strings.Repeat("0(", tree.MaxText), strings.Repeat("9", 2*tree.MaxText)} {
		if x, e := tree.Parse(text); e != api.ErrLong || !reflect.DeepEqual(x, api.Tree{}) {
			t.Errorf("%.20s, of %d bytes: %v", text, len(text), e)
		}
	}
	if _, e := tree.Parse(strings.Repeat("9", tree.MaxText)); e != api.ErrOver {
		t.Errorf("a number of %d digits: %v", tree.MaxText, e)
	}
	if _, e := tree.Parse(long[:tree.MaxText-1]); e != api.ErrForm {
		t.Errorf("half a byte: %v", e)
	}
}

// What may come next in a text.
const (
	begin = iota // a tree
	digits
	more // digits, or what is behind them
	high // the first digit of a byte
	low
	bytes // a byte, or what is behind it
	end   // what is behind a tree
)

// told: what layer 17 tells of a text, byte by byte, without a tree.
func told(text string) api.Errno {
	state, open := begin, 0
	number := ""
	for i := range len(text) + 1 {
		c := "$" // the end
		if i < len(text) {
			c = text[i : i+1]
		}
		if state == begin && (c == "_" || strings.Contains("0123456789", c)) {
			if open >= tree.MaxDeep {
				return api.ErrDeep
			}
			number, state = "", digits
			if c == "_" {
				continue
			}
		}
		decimal := strings.Contains("0123456789", c)
		if state == more && !decimal {
			if _, e := strconv.ParseUint(number, 10, 64); e != nil {
				return api.ErrOver
			}
		}
		hex := decimal || strings.Contains("abcdef", c)
		behind := state == more || state == bytes || state == end
		switch {
		case decimal && (state == digits || state == more) && number != "0":
			number, state = number+c, more
		case hex && (state == high || state == bytes):
			state = low
		case hex && state == low:
			state = bytes
		case c == ":" && state == more:
			state = high
		case c == "(" && (state == more || state == bytes):
			state, open = begin, open+1
		case c == "," && behind && open > 0:
			state = begin
		case c == ")" && behind && open > 0:
			state, open = end, open-1
		case c == "$" && i == len(text) && behind && open == 0:
			return api.OK
		default:
			return api.ErrForm
		}
	}
	return api.ErrForm
}

func TestParseOfSpoiltTexts(t *testing.T) {
	const signs = "0019:_(),,af\x00 x"
	m := &sample.Maker{Seed: 22}
	met := map[api.Errno]int{}
	for i := range 20000 {
		text := tree.Text(m.Tree(i % 4))
		for range m.UpTo(4) {
			at := m.UpTo(len(text) + 1)
			c := m.UpTo(len(signs))
			switch m.UpTo(4) {
			case 0:
				text = text[:at] + signs[c:c+1] + text[at:]
			case 1:
				text = text[:at] + strings.Repeat("9", m.UpTo(22)) + text[at:]
			case 2:
				text = text[:at] + text[min(at+1, len(text)):]
			case 3:
				text = text[:at]
			}
		}
		x, e := tree.Parse(text)
		if want := told(text); e != want {
			t.Fatalf("%q: %v, want %v", text, e, want)
		}
		if e == api.OK && tree.Text(x) != text || e != api.OK && !reflect.DeepEqual(x, api.Tree{}) {
			t.Fatalf("%q: %+v", text, x)
		}
		met[e]++
	}
	for _, e := range []api.Errno{api.OK, api.ErrForm, api.ErrOver} {
		if met[e] < 500 {
			t.Errorf("met: %v", met)
		}
	}
}

// Each byte alone, and each one where something else may come.
func TestParseOfEachByte(t *testing.T) {
	for c := range 256 {
		for _, ahead := range []string{"", "_", "0", "1", "_5", "0:", "0:a", "0:ab", "0(", "0(1", "0(1,", "0(1)", "0(0:ab"} {
			for _, behind := range []string{"", "0", "00", ")", "0)", "00)", ":ab"} {
				text := ahead + string([]byte{byte(c)}) + behind
				if x, e := tree.Parse(text); e != told(text) || e == api.OK && tree.Text(x) != text {
					t.Errorf("%q: %v, want %v", text, e, told(text))
				}
			}
		}
	}
}

func TestTextsAreReadBack(t *testing.T) {
	for _, x := range samples(500) {
		text := tree.Text(x)
		got, e := tree.Parse(text)
		if e != api.OK || !reflect.DeepEqual(got, x) || told(text) != api.OK {
			t.Fatalf("%s: %+v, %v", text, got, e)
		}
		again, _ := tree.Parse(text)
		spoil(got)
		if tree.Text(again) != text {
			t.Fatalf("two trees of %s share memory", text)
		}
	}
}

func TestExamples(t *testing.T) {
	x := tree.Of(tree.Num(5), tree.Blank(), tree.Of(tree.Data([]byte("ab")...)))
	if tree.Text(x) != "0(5,_0,0(0:6162))" || !tree.Same(read(t, "0(5,_0,0(0:6162))"), x) {
		t.Error(tree.Text(x))
	}
}
