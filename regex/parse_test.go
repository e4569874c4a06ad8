package regex_test

import (
	"strings"
	"testing"

	"guipure/api"
	"guipure/class"
	"guipure/regex"
)

// P6.1: what a text is.

// wantRead tells if a text isn't read as an expression.
func wantRead(t *testing.T, text string, want api.Regex) {
	t.Helper()
	n, f := regex.Parse(text)
	if f != (api.Fault{}) || !regex.Same(n, want) {
		t.Errorf("Parse of %q: %s %v, want %s", text, regex.Text(n), f, regex.Text(want))
	}
	if e := regex.Check(n); e != api.OK {
		t.Errorf("Parse of %q may not be: %v", text, e)
	}
}

func TestParseOfTexts(t *testing.T) {
	a, b, c := bytesOf("a"), bytesOf("b"), bytesOf("c")
	wants := map[string]api.Regex{
		"":           nothing(),
		"()":         nothing(),
		"((()))":     nothing(),
		"a":          a,
		"((a))":      a,
		"ab":         cat(a, b),
		"abc":        cat(a, b, c),
		"(ab)c":      cat(cat(a, b), c),
		"a(bc)":      cat(a, cat(b, c)),
		"a()":        cat(a, nothing()),
		"()()":       cat(nothing(), nothing()),
		"a|b":        alt(a, b),
		"a|b|c":      alt(a, b, c),
		"(a|b)|c":    alt(alt(a, b), c),
		"|":          alt(nothing(), nothing()),
		"|a":         alt(nothing(), a),
		"a|":         alt(a, nothing()),
		"a||b":       alt(a, nothing(), b),
		"ab|c":       alt(cat(a, b), c),
		"(|)":        alt(nothing(), nothing()),
		"a(b|c)":     cat(a, alt(b, c)),
		"ab*":        cat(a, repeat(b, 0, -1)),
		"(ab)*":      repeat(cat(a, b), 0, -1),
		"(a|b)*":     repeat(alt(a, b), 0, -1),
		"a|b*":       alt(a, repeat(b, 0, -1)),
		"()*":        repeat(nothing(), 0, -1),
		"a*":         repeat(a, 0, -1),
		"a+":         repeat(a, 1, -1),
		"a?":         repeat(a, 0, 1),
		"a{3}":       repeat(a, 3, 3),
		"a{3,}":      repeat(a, 3, -1),
		"a{3,5}":     repeat(a, 3, 5),
		"a{3,3}":     repeat(a, 3, 3),
		"a{0}":       repeat(a, 0, 0),
		"a{0,0}":     repeat(a, 0, 0),
		"a{0,}":      repeat(a, 0, -1),
		"a{0,1}":     repeat(a, 0, 1),
		"a{256}":     repeat(a, 256, 256),
		"a{256,}":    repeat(a, 256, -1),
		"a{0,256}":   repeat(a, 0, 256),
		"a**":        repeat(repeat(a, 0, -1), 0, -1),
		"a*+?":       repeat(repeat(repeat(a, 0, -1), 1, -1), 0, 1),
		"a{2}{3,4}?": repeat(repeat(repeat(a, 2, 2), 3, 4), 0, 1),
		"[a]b":       cat(a, b),
		".a":         cat(one(class.All()), a),
		".*":         repeat(one(class.All()), 0, -1),
		"[ab]*":      repeat(bytesOf("ab"), 0, -1),

		"a(b|[0-9]{2,})*": cat(a, repeat(alt(b, repeat(one(class.Range('0', '9')), 2, -1)), 0, -1)),
	}
	for text, want := range wants {
		wantRead(t, text, want)
	}
}

// The Max of a Repeat without end is below 0, and a field that has no meaning is 0.
func TestParseFields(t *testing.T) {
	n, _ := regex.Parse("(a|b{2,}c)*")
	if n.Max >= 0 || n.Set != (class.Set{}) {
		t.Errorf("a Repeat: %+v", n)
	}
	kid := n.Kids[0]
	if kid.Kind != api.Alt || kid.Min != 0 || kid.Max != 0 || kid.Set != (class.Set{}) {
		t.Errorf("an Alt: %+v", kid)
	}
	if first := kid.Kids[0]; first.Kids != nil || first.Min != 0 || first.Max != 0 {
		t.Errorf("a One: %+v", first)
	}
}

func TestParseOfSets(t *testing.T) {
	abc := class.Range('a', 'c')
	wants := map[string]class.Set{
		".":                 class.All(),
		"[a]":               class.Of('a'),
		"[abc]":             abc,
		"[cba]":             abc,
		"[aabbcc]":          abc,
		"[a-c]":             abc,
		"[a-bb-c]":          abc,
		"[a-a]":             class.Of('a'),
		"[^a-c]":            abc.Not(),
		"[^a]":              class.Of('a').Not(),
		"[^]":               class.All(), // all but none
		"[.]":               class.Of('.'),
		"[^.]":              class.Of('.').Not(),
		"[!-.]":             class.Range('!', '.'),
		"[ -~]":             class.Range(' ', '~'),
		`[\x00-\xff]`:       class.All(),
		`[\x00-\x1f\x80]`:   class.Range(0, 31).Or(class.Of(128)),
		`[^\x00-\xfe]`:      class.Of(255),
		`[\n\r\t\0]`:        class.Of(10, 13, 9, 0),
		`[\]\[\^\-\\]`:      class.Of(']', '[', '^', '-', '\\'),
		`[\--\/]`:           class.Range('-', '/'),
		`[a\-c]`:            class.Of('a', '-', 'c'),
		`[^\^]`:             class.Of('^').Not(),
		"[$,:;<=>@_`~!%&']": class.Of([]byte("$,:;<=>@_`~!%&'")...),
		"[0-9a-fA-F]":       class.Range('0', '9').Or(class.Range('a', 'f')).Or(class.Range('A', 'F')),
	}
	for text, want := range wants {
		wantRead(t, text, one(want))
	}
}

// stands: whether a byte is itself, outside brackets but for the dot.
func stands(c byte) bool {
	return c >= 32 && c <= 126 && !strings.ContainsRune(`/[](){}|*+?^"#-\`, rune(c))
}

func TestParseOfBytes(t *testing.T) {
	for i := range 256 {
		c := byte(i)
		text := string([]byte{c})
		in := "[a" + text + "]"
		if stands(c) {
			want := class.Of(c)
			if c == '.' {
				want = class.All()
			}
			wantRead(t, text, one(want))
			wantRead(t, in, one(class.Of('a', c)))
			continue
		}
		if c != '|' && c != '\\' {
			at := 0
			if c == '(' || c == '[' {
				at = 1
			}
			wantFault(t, text, api.ErrForm, at)
		}
		if c == '-' {
			wantFault(t, in, api.ErrForm, 3)
		} else if c != ']' && c != '\\' {
			wantFault(t, in, api.ErrForm, 2)
		}
	}
}

func TestParseBehindABackslash(t *testing.T) {
	named := map[byte]byte{'n': 10, 'r': 13, 't': 9, '0': 0}
	for i := range 256 {
		c := byte(i)
		letter := c|32 >= 'a' && c|32 <= 'z' || c >= '0' && c <= '9'
		text := `\` + string([]byte{c})
		want, ok := named[c]
		if !ok && c >= 33 && c <= 126 && !letter {
			want, ok = c, true
		}
		if !ok {
			wantFault(t, text, api.ErrForm, 0)
			wantFault(t, text+"a", api.ErrForm, 0)
			wantFault(t, "a[b"+text+"]", api.ErrForm, 3)
			continue
		}
		wantRead(t, text, one(class.Of(want)))
		wantRead(t, text+"a", cat(one(class.Of(want)), bytesOf("a")))
		wantRead(t, "["+text+"]", one(class.Of(want)))
	}
	for i := range 256 {
		digits := "0123456789abcdef"
		two := string([]byte{digits[i/16], digits[i%16]})
		wantRead(t, `\x`+two, one(class.Of(byte(i))))
		wantRead(t, `[\x`+two+`]`, one(class.Of(byte(i))))
		if upper := strings.ToUpper(two); upper != two {
			wantFault(t, `a\x`+upper, api.ErrForm, 1)
		}
	}
	wantRead(t, `\x410`, cat(bytesOf("A"), bytesOf("0")))
	wantRead(t, `\00`, cat(one(class.Of(0)), bytesOf("0")))
}

// P6.1: what is wrong.

// wantFault tells if something else is wrong with a text, or nothing, or if anything is answered beside it.
func wantFault(t *testing.T, text string, code api.Errno, at int) {
	t.Helper()
	n, f := regex.Parse(text)
	if f != (api.Fault{Code: code, At: at}) {
		t.Errorf("Parse of %q: %v, want %v at %d", text, f, code, at)
	}
	if n.Kind != 0 || n.Kids != nil || n.Set != (class.Set{}) || n.Min != 0 || n.Max != 0 {
		t.Errorf("Parse of %q: %+v beside a fault", text, n)
	}
}

func TestParseForm(t *testing.T) {
	for text, at := range map[string]int{
		"a)": 1, ")": 0, "())": 2, "a|)": 2, "(a))b": 3,
		"(": 1, "(a": 2, "(a|": 3, "((a)": 4, "a(b*": 4, "(()": 3,
		"*": 0, "+": 0, "?": 0, "{2}": 0, "a|*": 2, "(*)": 1, "(+": 1, "|?": 1,
		"]": 0, "}": 0, "a]": 1, "a}": 1, "a{2}}": 4, "[a]]": 3,
		"-": 0, "a-b": 1, "^": 0, "^a": 0, "/": 0, `"`: 0, "a#": 1,
		"[": 1, "[a": 2, "[^": 2, "[a-": 3, "[^a-b": 5, "ab[c-d": 6,
		"[-a]": 1, "[a-]": 3, "[a-b-c]": 4, "[^-]": 2, "[^^]": 2, "[a^]": 2, "[a[]": 2, "[a(b]": 2, "[a--]": 3, `["]`: 1,
		"a\x00": 1, "\x00": 0, "a\x7f": 1, "ab\n": 2, "\xff": 0, "\xc3\xa4": 0, "[\x00]": 1, "(\x00": 1, "a{\x00}": 2,
		"a{": 2, "a{3": 3, "a{3,": 4, "a{3,5": 5, "a{}": 2, "a{,}": 2, "a{,3}": 2, "a{x}": 2, "a{ 1}": 2, "a{-1}": 2, "a{+1}": 2,
		"a{1x}": 3, "a{1 }": 3, "a{1,x}": 4, "a{1,2,3}": 5, "a{1,2x}": 5, "a{1,,}": 4, "a{1,-}": 4,
		"a{01}": 2, "a{00}": 2, "a{1,02}": 4, "a{0300}": 2, "a{010": 2, "a{5,03}": 4, "a{00000000000000000000000": 2,
		`\`: 0, `a\`: 1, `\q`: 0, `ab\1`: 2, `\x`: 0, `\x4`: 0, `a\x4`: 1, `\xg0`: 0, `\x0g`: 0, `\x4)`: 0, `\N`: 0, `[\`: 1, `[a\x4]`: 2, `[a-\q]`: 3, "\\\xc3": 0, `(\`: 1, `\ `: 0,
	} {
		wantFault(t, text, api.ErrForm, at)
	}
}

func TestParseRange(t *testing.T) {
	for text, at := range map[string]int{
		"a{257}": 2, "a{257,}": 2, "a{257,1}": 2, "a{0,257}": 4, "a{300,400}": 2, "a{257": 2, "a{1,1000": 4, "a{999x}": 2,
		"a{18446744073709551615}": 2, "a{18446744073709551616}": 2, "a{1,99999999999999999999999999}": 4, "ab{3}c{257}": 7,
		"a{5,3}": 2, "a{1,0}": 2, "abc{256,255}": 4, "a{5,3": 2, "a{10,9}": 2,
		"[b-a]": 0, "x[b-a]": 1, "[z-a": 0, "[^b-a]": 0, "[a-cz-x]": 0, `[\xff-\x00]`: 0, "(a|[9-0])": 3, `[b-a\q]`: 0, "[b-a-": 0,
	} {
		wantFault(t, text, api.ErrRange, at)
	}
}

func TestParseEmpty(t *testing.T) {
	for text, at := range map[string]int{
		"[]": 0, "a[]": 1, "ab|([])": 4, `[^\x00-\xff]`: 0, `x[^\x00-\x7f\x80-\xff]`: 1, "[]a": 0, "[])": 0,
	} {
		wantFault(t, text, api.ErrEmpty, at)
	}
	wantFault(t, `[^\x00-\xff`, api.ErrForm, 11) // it could still be something else
	wantFault(t, `[^\x00-\xff)]`, api.ErrForm, 11)
}

func TestParseDeep(t *testing.T) {
	open, shut := strings.Repeat("(", 32), strings.Repeat(")", 32)
	wantRead(t, open+"a"+shut, bytesOf("a"))
	wantRead(t, "a"+open+shut+open+"b"+shut, cat(bytesOf("a"), nothing(), bytesOf("b")))
	wantFault(t, open+"("+")"+shut, api.ErrDeep, 33)
	wantFault(t, "ab"+open+"(c)"+shut, api.ErrDeep, 35)
	wantFault(t, open+"(", api.ErrDeep, 33)
	wantFault(t, open+"(*", api.ErrDeep, 33)
	wantFault(t, open+"*(", api.ErrForm, 32)
	wantFault(t, open+")(()", api.ErrDeep, 35)
	wantFault(t, open+open, api.ErrDeep, 33)
	wantFault(t, open, api.ErrForm, 32)
}

func TestParseLong(t *testing.T) {
	a := bytesOf("a")
	wantRead(t, strings.Repeat("a", 511), cat(many(511, a)...))
	wantRead(t, "("+strings.Repeat("a", 510)+")", cat(many(510, a)...))
	wantRead(t, "a"+strings.Repeat("*", 511), func() api.Regex {
		n := a
		for range 511 {
			n = repeat(n, 0, -1)
		}
		return n
	}())
	for _, text := range []string{strings.Repeat("a", 513), strings.Repeat("*", 513), strings.Repeat("[", 600), strings.Repeat("(", 1<<20), `\` + strings.Repeat("\xff", 512)} {
		wantFault(t, text, api.ErrLong, 0)
	}
	wantFault(t, strings.Repeat("[", 512), api.ErrForm, 1) // not too long yet
}

func TestParseOfTooManyExpressions(t *testing.T) {
	wantRead(t, strings.Repeat("|", 510), alt(many(511, nothing())...))
	wantRead(t, strings.Repeat("ab|", 170), alt(append(many(170, cat(bytesOf("a"), bytesOf("b"))), nothing())...))
	for _, text := range []string{
		strings.Repeat("a", 512),          // and a Cat
		strings.Repeat("|", 511),          // 512 of Nothing, and an Alt
		strings.Repeat("|", 512),          // 513 of Nothing
		strings.Repeat("ab|", 170) + "ab", // 171 Cats
		strings.Repeat("a", 509) + "|bc",  // two Cats, and an Alt
		strings.Repeat("a*", 256),         // and a Cat
		strings.Repeat("(|)", 170) + "ab", // 170 Alts, and a Cat
		strings.Repeat("ab|", 170) + "..", // likewise of sets
	} {
		wantFault(t, text, api.ErrLong, len(text))
	}
	wantFault(t, strings.Repeat("a", 511)+")", api.ErrForm, 511)
	wantFault(t, strings.Repeat("a", 511)+"-", api.ErrForm, 511)
}

// texts: many that are near to being right.
func texts() []string {
	pieces := []string{"a", "b", "(", ")", "|", "*", "+", "?", "{2}", "{1,3}", "{2,}", "{", "}", ",", "1", "30", "[", "]", "^", "-", "[a-c]", "[^b]", ".", `\n`, `\x41`, `\`, "x", "(a|b)", " "}
	m := maker{seed: 77}
	var out []string
	for i := range 20000 {
		text := ""
		for range 1 + i%9 {
			text += pieces[m.upTo(len(pieces))]
		}
		out = append(out, text)
	}
	return out
}

// What is right is read the same again as it is written; what is wrong is wrong at a place ahead of which nothing is.
func TestParseOfAnything(t *testing.T) {
	right, wrong := 0, 0
	for _, text := range texts() {
		n, f := regex.Parse(text)
		if f == (api.Fault{}) {
			right++
			wantRead(t, regex.Text(n), n)
			continue
		}
		wrong++
		wantFault(t, text, f.Code, f.At)
		if f.At < 0 || f.At > len(text) {
			t.Errorf("%q: wrong at %d", text, f.At)
			continue
		}
		ahead := api.Fault{Code: api.ErrForm, At: f.At} // it isn't at its end yet
		if _, g := regex.Parse(text[:f.At]); g != (api.Fault{}) && g != ahead {
			t.Errorf("%q: wrong at %d, but %v ahead of that", text, f.At, g)
		}
		if f.At == len(text) || text[f.At] == '\\' {
			continue // more behind it may make it right
		}
		for _, more := range []string{")", "]", "a"} {
			wantFault(t, text+more, f.Code, f.At)
		}
	}
	if right < 1000 || wrong < 1000 {
		t.Errorf("the test had %d right texts, and %d wrong ones", right, wrong)
	}
}

// spoilSpare writes into the spare room of all lists of an expression.
func spoilSpare(n api.Regex) {
	spare := n.Kids[len(n.Kids):cap(n.Kids)]
	for i := range spare {
		spare[i] = nothing()
	}
	for _, kid := range n.Kids {
		spoilSpare(kid)
	}
}

// spoil writes into all lists of an expression.
func spoil(n api.Regex) {
	for i, kid := range n.Kids {
		spoil(kid)
		n.Kids[i] = nothing()
	}
}

// Rule 4: no two answers share memory, nor two lists of one.
func TestParseIsNew(t *testing.T) {
	const text = "(abc|cde|f)*ghi(j|k|l)"
	one, _ := regex.Parse(text)
	other, _ := regex.Parse(text)
	spoilSpare(one)
	if got := regex.Text(one); got != text {
		t.Errorf("the lists of one answer: %s", got)
	}
	spoil(one)
	if got := regex.Text(other); got != text {
		t.Errorf("the other answer: %s", got)
	}
}
