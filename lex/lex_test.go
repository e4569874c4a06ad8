package lex_test

import (
	"regexp"
	"slices"
	"strings"
	"testing"

	"guipure/api"
	"guipure/lex"
	"guipure/sample"
)

// scanned: the tokens of a text.
func scanned(t *testing.T, text string) []lex.Token {
	t.Helper()
	list, f := lex.Scan(text)
	if f != (api.Fault{}) {
		t.Fatalf("Scan of %q: %v", text, f)
	}
	return list
}

// shown: kinds and texts of tokens, as one text.
func shown(list []lex.Token) string {
	var out strings.Builder
	for _, token := range list {
		out.WriteString("?npx.e"[token.Kind:token.Kind+1] + "<" + token.Text + ">")
	}
	return out.String()
}

// P10.1

func TestConstants(t *testing.T) {
	if lex.MaxText != 65536 || lex.MaxTokens != 8192 || lex.MaxName != 24 || lex.MaxDigits != 20 {
		t.Error("the limits")
	}
	if lex.Name != 1 || lex.Number != 2 || lex.Pattern != 3 || lex.Sign != 4 || lex.End != 5 {
		t.Error("the kinds")
	}
}

func TestScan(t *testing.T) {
	for text, want := range map[string]string{
		"":                                "e<>",
		" \t\r\n ":                        "e<>",
		"# a note":                        "e<>",
		"#":                               "e<>",
		"#\n#\n":                          "e<>",
		"n: u8 1..63;":                    "n<n>.<:>n<u8>p<1>.<..>p<63>.<;>e<>",
		"a":                               "n<a>e<>",
		"_":                               "n<_>e<>",
		"azAZ_09":                         "n<azAZ_09>e<>",
		"__x_1 b":                         "n<__x_1>n<b>e<>",
		"0":                               "p<0>e<>",
		"10 9":                            "p<10>p<9>e<>",
		"12ab":                            "p<12>n<ab>e<>",
		"0x1":                             "p<0>n<x1>e<>",
		"0 0":                             "p<0>p<0>e<>",
		"1..2":                            "p<1>.<..>p<2>e<>",
		"....":                            ".<..>.<..>e<>",
		"={}[]();:|*+%..":                 ".<=>.<{>.<}>.<[>.<]>.<(>.<)>.<;>.<:>.<|>.<*>.<+>.<%>.<..>e<>",
		"/ab/":                            "x<ab>e<>",
		"//":                              "x<>e<>",
		"////":                            "x<>x<>e<>",
		"/a/b/c/":                         "x<a>n<b>x<c>e<>",
		"/ #~/":                           "x< #~>e<>",
		"/a#b/#c/d/\n/#/":                 "x<a#b>x<#>e<>",
		`/\x2f\/`:                         `x<\x2f\>e<>`,
		"/..=a1/":                         "x<..=a1>e<>",
		"a#b\nc":                          "n<a>n<c>e<>",
		"a#b\rc":                          "n<a>e<>",
		"a # \x00\x7f\xff @ ~ .\n= # end": "n<a>.<=>e<>",
		"a\tb\rc\nd e":                    "n<a>n<b>n<c>n<d>n<e>e<>",
		"bytes[2*n+1]":                    "n<bytes>.<[>p<2>.<*>n<n>.<+>p<1>.<]>e<>",
		"crc(a..b)":                       "n<crc>.<(>n<a>.<..>n<b>.<)>e<>",
	} {
		if got := shown(scanned(t, text)); got != want {
			t.Errorf("%q: %s, want %s", text, got, want)
		}
	}
}

func TestScanTellsWhere(t *testing.T) {
	wants := []struct {
		text string
		at   []int
	}{
		{"", []int{0}},
		{"  ", []int{2}},
		{"#ab", []int{3}},
		{"n: u8 1..63;", []int{0, 1, 3, 6, 7, 9, 11, 12}},
		{" a # b\n /c d/  .. 5 \n", []int{1, 8, 15, 18, 21}},
		{"////", []int{0, 2, 4}},
	}
	for _, w := range wants {
		var at []int
		for _, token := range scanned(t, w.text) {
			at = append(at, token.At)
		}
		if !slices.Equal(at, w.at) {
			t.Errorf("%q: %v, want %v", w.text, at, w.at)
		}
	}
}

// Each byte alone, and each one behind a token, is a token, or none, or wrong.
func TestScanOfEachByte(t *testing.T) {
	const letters = "abcdefghijklmnopqrstuvwxyzABCDEFGHIJKLMNOPQRSTUVWXYZ_"
	for c := range 256 {
		text := string([]byte{byte(c)})
		want, fault := "?", api.Fault{}
		switch {
		case strings.Contains(" \t\n\r#", text):
			want = ""
		case strings.Contains(letters, text):
			want = "n<" + text + ">"
		case strings.Contains("0123456789", text):
			want = "p<" + text + ">"
		case strings.Contains("={};[]():|*+%", text):
			want = ".<" + text + ">"
		case text == "/":
			fault.Code = api.ErrForm
		default:
			fault.Code = api.ErrSign
		}
		for _, ahead := range []string{"", "ab ", "//"} {
			list, f := lex.Scan(ahead + text)
			if fault.Code != api.OK {
				fault.At = len(ahead)
			}
			if f != fault || f.Code != api.OK && list != nil {
				t.Errorf("%q behind %q: %v, %v, want %v", text, ahead, list, f, fault)
			}
			if f.Code == api.OK && shown(list) != shown(scanned(t, ahead)[:min(len(ahead), 1)])+want+"e<>" {
				t.Errorf("%q behind %q: %s", text, ahead, shown(list))
			}
		}
	}
}

// P10.2

func TestScanRefuses(t *testing.T) {
	long := strings.Repeat("n", lex.MaxName)
	digits := strings.Repeat("9", lex.MaxDigits)
	for text, want := range map[string]api.Fault{
		" " + long + "n":                      {Code: api.ErrLong, At: 1},
		"a " + long + "_;@":                   {Code: api.ErrLong, At: 2},
		long + "0":                            {Code: api.ErrLong},
		strings.Repeat("n", 1000):             {Code: api.ErrLong},
		" " + digits + "9":                    {Code: api.ErrLong, At: 1},
		"0" + digits:                          {Code: api.ErrLong},
		strings.Repeat("0", 21):               {Code: api.ErrLong},
		strings.Repeat("0", 20):               {Code: api.ErrForm},
		"00":                                  {Code: api.ErrForm},
		"a 01":                                {Code: api.ErrForm, At: 2},
		"[007]":                               {Code: api.ErrForm, At: 1},
		"1..01":                               {Code: api.ErrForm, At: 3},
		"/":                                   {Code: api.ErrForm},
		"///":                                 {Code: api.ErrForm, At: 2},
		" /ab":                                {Code: api.ErrForm, At: 1},
		"/a\n/":                               {Code: api.ErrForm},
		"/a\t/":                               {Code: api.ErrForm},
		"/\x1f/":                              {Code: api.ErrForm},
		"/\x7f/":                              {Code: api.ErrForm},
		"/\x80/":                              {Code: api.ErrForm},
		"a/b\n# /":                            {Code: api.ErrForm, At: 1},
		".":                                   {Code: api.ErrSign},
		"...":                                 {Code: api.ErrSign, At: 2},
		"1.5":                                 {Code: api.ErrSign, At: 1},
		". .":                                 {Code: api.ErrSign},
		"a-b":                                 {Code: api.ErrSign, At: 1},
		"a,":                                  {Code: api.ErrSign, At: 1},
		"\v":                                  {Code: api.ErrSign},
		"\f":                                  {Code: api.ErrSign},
		"a \x00":                              {Code: api.ErrSign, At: 2},
		"é":                                   {Code: api.ErrSign},
		"aé":                                  {Code: api.ErrSign, At: 1},
		"# é\né":                              {Code: api.ErrSign, At: 5},
		"\xff":                                {Code: api.ErrSign},
		"a @ 00 /":                            {Code: api.ErrSign, At: 2}, // the first thing alone is told
		"a 00 @ /":                            {Code: api.ErrForm, At: 2},
		"a / @ 00":                            {Code: api.ErrForm, At: 2},
		"a " + long + "n @":                   {Code: api.ErrLong, At: 2},
		"@" + strings.Repeat(" ", 1<<16):      {Code: api.ErrLong},
		strings.Repeat("\xff", lex.MaxText+1): {Code: api.ErrLong},
		strings.Repeat("\xff", lex.MaxText):   {Code: api.ErrSign},
	} {
		list, f := lex.Scan(text)
		if f != want || want.Code != api.OK && list != nil {
			t.Errorf("%.40q: %v, %v, want %v", text, list, f, want)
		}
	}
	if got := shown(scanned(t, long+" "+digits)); got != "n<"+long+">p<"+digits+">e<>" {
		t.Errorf("as long as they may be: %s", got)
	}
}

func TestScanOfLongTexts(t *testing.T) {
	for _, text := range []string{
		strings.Repeat(" ", lex.MaxText),
		"#" + strings.Repeat("x", lex.MaxText-1),
		"/" + strings.Repeat("x", lex.MaxText-2) + "/",
		strings.Repeat(" ", lex.MaxText-1) + ";",
	} {
		list := scanned(t, text)
		if last := list[len(list)-1]; last != (lex.Token{Kind: lex.End, At: lex.MaxText}) || len(list) > 2 {
			t.Errorf("%.10q: %d tokens, the last one is %v", text, len(list), last)
		}
		if list, f := lex.Scan(text + " "); list != nil || f != (api.Fault{Code: api.ErrLong}) {
			t.Errorf("%.10q and one byte more: %d tokens, %v", text, len(list), f)
		}
	}
}

func TestScanOfManyTokens(t *testing.T) {
	text := strings.Repeat("a;", lex.MaxTokens/2)
	for _, behind := range []string{"", "  ", "\n# note"} {
		list := scanned(t, text+behind)
		if len(list) != lex.MaxTokens+1 || list[lex.MaxTokens] != (lex.Token{Kind: lex.End, At: len(text + behind)}) {
			t.Errorf("%q: %d tokens, the last one is %v", behind, len(list), list[len(list)-1])
		}
	}
	for _, behind := range []string{"a", ";", "1", "//", "..", strings.Repeat("n", 25), "00", "a @"} {
		if list, f := lex.Scan(text + " #\n" + behind); list != nil || f != (api.Fault{Code: api.ErrLong, At: len(text) + 3}) {
			t.Errorf("%q: %d tokens, %v", behind, len(list), f)
		}
	}
}

// token: what a token is, as the chapter tells it; its kinds in order.
var token = regexp.MustCompile(`^(?:([a-zA-Z_][a-zA-Z_0-9]*)|([0-9]+)|/([ -.0-~]*)/|(\.\.|[={};\[\]():|*+%]))`)

// gap: blanks and notes.
var gap = regexp.MustCompile(`^(?:[\t\n\r ]|#[^\n]*)*`)

// expected: the tokens of a text that isn't too long, nor has too many, or what is wrong.
func expected(text string) ([]lex.Token, api.Fault) {
	var out []lex.Token
	for at := 0; ; {
		at += len(gap.FindString(text[at:]))
		if at == len(text) {
			return append(out, lex.Token{Kind: lex.End, At: at}), api.Fault{}
		}
		m := token.FindStringSubmatchIndex(text[at:])
		switch {
		case m == nil && text[at] == '/':
			return nil, api.Fault{Code: api.ErrForm, At: at}
		case m == nil:
			return nil, api.Fault{Code: api.ErrSign, At: at}
		case m[2] >= 0 && m[1] > 24 || m[4] >= 0 && m[1] > 20:
			return nil, api.Fault{Code: api.ErrLong, At: at}
		case m[4] >= 0 && m[1] > 1 && text[at] == '0':
			return nil, api.Fault{Code: api.ErrForm, At: at}
		}
		for kind := lex.Name; kind <= lex.Sign; kind++ {
			if m[2*kind] >= 0 {
				out = append(out, lex.Token{Kind: kind, At: at, Text: text[at+m[2*kind] : at+m[2*kind+1]]})
			}
		}
		at += m[1]
	}
}

// pieces of texts: most are such as stand in specifications, few are wrong.
var pieces = []string{
	"a", "b1", "_x", "size", "0", "1", "42", "10", " ", "\n", "\t", "\r", "#", "# a\n", "/", "/a/", "/#/", "/ b/", "..", "..", ".", "=", ";",
	"{", "}", "[", "]", "(", ")", ":", "|", "*", "+", "%", "nnnnnnnnnnnnnnnnnnnn", "nnnnn", "99999999999999999", "999", "\x7f", "-", "\xc3\xa9", "00",
}

func TestScanOfAll(t *testing.T) {
	m := sample.Maker{Seed: 11}
	met := map[api.Errno]int{}
	for range 20000 {
		var text strings.Builder
		few := 24 + m.UpTo(len(pieces)-23) // so that not all texts are wrong
		for range m.UpTo(16) {
			text.WriteString(pieces[m.UpTo(few)])
		}
		list, f := lex.Scan(text.String())
		want, fault := expected(text.String())
		if f != fault || !slices.Equal(list, want) {
			t.Fatalf("%q: %v, %v, want %v, %v", text.String(), list, f, want, fault)
		}
		met[f.Code]++
		if again := lex.Join(list...); f.Code == api.OK && !lex.Same(scanned(t, again), list) {
			t.Errorf("%q: joined %q", text.String(), again)
		}
	}
	for _, e := range []api.Errno{api.OK, api.ErrLong, api.ErrForm, api.ErrSign} {
		if met[e] < 100 {
			t.Errorf("%v comes %d times", e, met[e])
		}
	}
}

// P10.3

func TestShow(t *testing.T) {
	for _, w := range []struct {
		token lex.Token
		want  string
	}{
		{lex.Token{Kind: lex.Name, At: 7, Text: "main"}, "main"},
		{lex.Token{Kind: lex.Number, Text: "63"}, "63"},
		{lex.Token{Kind: lex.Pattern, Text: "a+b"}, "/a+b/"},
		{lex.Token{Kind: lex.Pattern}, "//"},
		{lex.Token{Kind: lex.Sign, Text: ".."}, ".."},
		{lex.Token{Kind: lex.End, At: 9}, ""},
		{lex.Token{Kind: -1, Text: "x"}, "x"},
		{lex.Token{Kind: 9, Text: "y"}, "y"},
		{lex.Token{}, ""},
	} {
		if got := lex.Show(w.token); got != w.want {
			t.Errorf("%v: %q", w.token, got)
		}
	}
}

func TestJoin(t *testing.T) {
	for text, want := range map[string]string{
		"":                                  "",
		" # a\n":                            "",
		"a":                                 "a",
		"main={n:u8 1..63;# a\n d:/x y/;};": "main = { n : u8 1 .. 63 ; d : /x y/ ; } ;",
		"////":                              "// //",
	} {
		if got := lex.Join(scanned(t, text)...); got != want {
			t.Errorf("%q: %q", text, got)
		}
	}
	a, end := lex.Token{Kind: lex.Name, Text: "a"}, lex.Token{Kind: lex.End, Text: "b"}
	if got := lex.Join(end, a, end, a, a, end); got != "a a a" {
		t.Errorf("with some of the kind End: %q", got)
	}
	if got := lex.Join(); got != "" {
		t.Errorf("of none: %q", got)
	}
	if got := lex.Join(a, lex.Token{}, a); got != "a  a" {
		t.Errorf("of one without a text: %q", got)
	}
}

func TestSame(t *testing.T) {
	texts := []string{"", "a", "a b", "b a", "ab", "1", "/a/", "/1/", "//", "=", "/=/", "a =", "a = b"}
	for i, text := range texts {
		for j, other := range texts {
			if lex.Same(scanned(t, text), scanned(t, other)) != (i == j) {
				t.Errorf("%q and %q", text, other)
			}
		}
	}
	if !lex.Same(scanned(t, "a=1..2;"), scanned(t, " a # b\n = 1 ..\t2 ;\n")) {
		t.Error("but for where they stand")
	}
	a := scanned(t, "a b")
	if lex.Same(a, a[:2]) || lex.Same(a[:2], a) || lex.Same(a, nil) || !lex.Same(nil, []lex.Token{}) {
		t.Error("of lists of other lengths")
	}
}

// P2: what is handed in stays, and what is answered is new.
func TestTokensStay(t *testing.T) {
	list := append(make([]lex.Token, 0, 8), scanned(t, "a = /b/")...)
	keep := slices.Clone(list[:8])
	lex.Join(list...)
	lex.Same(list, list)
	if !slices.Equal(list[:8], keep) {
		t.Error("the tokens aren't as they were")
	}
	first := scanned(t, "a = /b/")
	clear(first[:cap(first)])
	if !slices.Equal(scanned(t, "a = /b/"), keep[:4]) {
		t.Error("answers share memory")
	}
}
