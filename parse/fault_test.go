package parse_test

import (
	"strconv"
	"strings"
	"testing"

	"guipure/api"
	"guipure/lex"
	"guipure/parse"
	"guipure/spec"
)

// Ahead of an `@` stands what is right so far; behind it the token that can't stand there.
func TestFormFaults(t *testing.T) {
	for _, text := range []string{
		// names
		"@", " \t\n@", "# a = u8;@", "@;", "@= u8;", "@5", "@/a/", "@{", "@u8", "@size = u8;", "@u16be = u8;", "@else = u8;", "@last",
		"main@", "main @u8;", "main @;", "main @main = u8;", "main @: u8;", "main = @", "main = @;", "main = @= u8;",
		"main = u8@", "main = u8 @main", "main = u8 @}", "main = u8 @= u8;", "main = u8;@;", "main = u8; a@", "main = u8; @5", "main = u8; @= u8;", "main = u8; @u8 = u8;", "a = u8; b = @",
		"a = u8 # ;\n@", "a = u8; #\n@}",
		// what no type begins with
		"main = @5;", "main = @5..6;", "main = @//;", "main = @(u8);", "main = @[n];", "main = @}", "main = @|;", "main = @* u8;", "main = @..;", "main = @: u8;", "main = @+;", "main = @%;", "main = @);", "main = @];",
		"main = @lenient;", "main = @else;", "main = @last u8;", "main = @size;", "main = @count(n);", "main = @crc;",
		// numbers
		"main = u8 5@;", "main = u8 5 @6;", "main = u8 5..@;", "main = u8 5..@a;", "main = u8 @..6;", "main = u8 5..@..6;", "main = u8 5..6@..7;", "main = u8 5..6 @7;", "main = u8 @lenient;", "main = u16be @lenient 1..2;", "main = u8 @u8;",
		"main = varint 1..2 @lenient;", "main = varint lenient @lenient;", "main = varint @zigzag;", "main = zigzag @varint;", "main = varint @[2];", "main = varint 5@;",
		// tokens, and what has nothing behind it
		"main = /a/ @1..2;", "main = /a/@/b/;", "main = /a/ @//;", "main = empty @empty;", "main = empty @1..2;", "main = a@.. 5;", "main = a @b;", "main = a @5;", "main = a @lenient;",
		// how many
		"main = bytes@;", "main = bytes @5;", "main = bytes @n;", "main = bytes @{n};", "main = bytes @(n);", "main = bytes [@];", "main = bytes [@size];", "main = bytes [@u8];", "main = bytes [@/n/];",
		"main = bytes [5@;", "main = bytes [5 @6];", "main = bytes [5@+6];", "main = bytes [5@+n];", "main = bytes [5 @n];", "main = bytes [n@*2];", "main = bytes [n+@];", "main = bytes [n+@m];", "main = bytes [n+1@+1];", "main = bytes [n+1@*n];",
		"main = bytes [2*@];", "main = bytes [2*@3];", "main = bytes [2*@size];", "main = bytes [2*@3*n];", "main = bytes [@+1];", "main = bytes [@*n];", "main = bytes [n @m];", "main = bytes [n@", "main = bytes [n]@[n];", "main = bytes [n] @u8;", "main = bytes [n@);",
		"main = times @u8;", "main = times [1]@;", "main = times [1] @5;", "main = times@;", "main = within@;", "main = within [1] @last;", "main = within @many u8;", "main = many@;", "main = many @[1] u8;", "main = many @last u8;", "main = many u8 @u8;",
		// records
		"main = {@};", "main = {@", "main = { @5 };", "main = { @; };", "main = { @{ a: u8; }; };", "main = { @size: u8; };", "main = { a@", "main = { a @= u8; };", "main = { a @; };", "main = { a:@; };", "main = { a:@", "main = { a: u8@", "main = { a: u8 @};", "main = { a: u8 @b: u8; };",
		"main = { a: u8; @; };", "main = { a: u8; @5 };", "main = { a: u8; @{ };", "main = { a: u8; @u8: u8; };", "main = { a: u8; @else: u8; };", "main = { a: u8; @", "main = { a: u8; @);", "main = { a: u8; b: {@}; };",
		"main = { a: u8 =@; };", "main = { a: u8 = @b; };", "main = { a: u8 = @5; };", "main = { a: u8 = @sizes(b); };", "main = { a: u8 = @bytes(b); };", "main = { a: u8 = size@; };", "main = { a: u8 = size @b; };", "main = { a: u8 = size @[b]; };", "main = { a: u8 = size(@); };", "main = { a: u8 = size(@5); };", "main = { a: u8 = size(@size); };", "main = { a: u8 = count(@u8); };",
		"main = { a: u8 = size(b@..c); };", "main = { a: u8 = count(b@..c); };", "main = { a: u8 = size(b@; };", "main = { a: u8 = size(b @c); };", "main = { a: u8 = crc(b@); };", "main = { a: u8 = crc(@..b); };", "main = { a: u8 = crc(b..@); };", "main = { a: u8 = crc(b..@u8); };", "main = { a: u8 = crc(@crc..b); };", "main = { a: u8 = crc(b..c@..d); };", "main = { a: u8 = crc(b @c); };",
		"main = { a: u8 = size(b) @= size(c); };", "main = { a: u8 = size(b) @};",
		// switches
		"main = switch@;", "main = switch @{ 0: u8; };", "main = switch @5 { 0: u8; };", "main = switch @size { 0: u8; };", "main = switch n@;", "main = switch n @5;", "main = switch n @: u8;", "main = switch n {@};", "main = switch n { @else: u8; };", "main = switch n { @a: u8; };", "main = switch n { @; };",
		"main = switch n %@;", "main = switch n % @{ 0: u8; };", "main = switch n % @m { 0: u8; };", "main = switch n % 5 @6;", "main = switch n % 5 @% 5 { 0: u8; };",
		"main = switch n { 0 @};", "main = switch n { 0 @u8; };", "main = switch n { 0@..1: u8; };", "main = switch n { 0:@; };", "main = switch n { 0: u8 @};", "main = switch n { 0: u8 @| 1: u8; };", "main = switch n { 0: u8; @; };", "main = switch n { 0: u8; @b: u8; };", "main = switch n { 0: u8; @",
		"main = switch n { 0: u8; else@; };", "main = switch n { 0: u8; else @u8; };", "main = switch n { 0: u8; else:@; };", "main = switch n { 0: u8; else: u8 @};", "main = switch n { 0: u8; else: u8; @1: u8; };", "main = switch n { 0: u8; else: u8; @else: u8; };",
		// choices and chains
		"main = oneof@;", "main = oneof @u8;", "main = oneof @[u8];", "main = oneof {@};", "main = oneof { @| u8 };", "main = oneof { u8 | @};", "main = oneof { u8 |@| u8 };", "main = oneof { u8 @u8 };", "main = oneof { u8@; };", "main = oneof { a@: u8; };", "main = oneof { u8 @", "main = oneof { @last u8 };", "main = oneof { u8 | @last u8 };",
		"main = chain@;", "main = chain @u8;", "main = chain {@};", "main = chain { last @};", "main = chain { last @last u8 };", "main = chain { last @| u8 };", "main = chain { u8 @last };", "main = chain { u8 @last | u8 };", "main = chain { u8 | @};", "main = chain { u8 | last u8@", "main = chain { u8@; };",
	} {
		wantAt(t, text, api.ErrForm)
	}
}

// Layer 10's error comes ahead of all others, wherever it is.
func TestLexFaults(t *testing.T) {
	long := strings.Repeat("n", lex.MaxName+1)
	for text, code := range map[string]api.Errno{
		"@?":                        api.ErrSign,
		"main = @-5;":               api.ErrSign,
		"; = u8 } @?":               api.ErrSign,
		"main = u8 300..300; @.":    api.ErrSign,
		"} @/":                      api.ErrForm,
		"main = u8 @00..1;":         api.ErrForm,
		"main = {}; @01":            api.ErrForm,
		"main = u8; @" + long + "=": api.ErrLong,
		"} @123456789012345678901":  api.ErrLong,
		"@" + strings.Repeat(" ", lex.MaxText) + ";":      api.ErrLong,
		strings.Repeat("a;", lex.MaxTokens/2) + "@} size": api.ErrLong,
	} {
		wantAt(t, text, code)
	}
}

func TestNumberFaults(t *testing.T) {
	const most, over = "18446744073709551615", "18446744073709551616"
	for text, code := range map[string]api.Errno{
		// above 2^64 - 1, wherever one stands
		"main = u8 @" + over + "..1;":                    api.ErrOver,
		"main = u8 5..@" + over + ";":                    api.ErrOver, // ahead of being above Most
		"main = varint 0..@99999999999999999999;":        api.ErrOver,
		"main = varint lenient @" + over + "..1;":        api.ErrOver,
		"main = bytes [@" + over + "];":                  api.ErrOver,
		"main = bytes [@" + over + "*n];":                api.ErrOver,
		"main = bytes [2*n+@" + over + "];":              api.ErrOver,
		"main = times [@" + over + "] u8;":               api.ErrOver,
		"main = switch n % @" + over + " { 0: u8; };":    api.ErrOver,
		"main = switch n { @" + over + ": u8; };":        api.ErrOver,
		"main = switch n { 0: u8; @" + over + ": u8; };": api.ErrOver,
		// where no number can stand, that is told
		"main = @" + over + ";":                      api.ErrForm,
		"main = u8 1..2 @" + over + ";":              api.ErrForm,
		"main = bytes [2*@" + over + "];":            api.ErrForm,
		"main = bytes [" + most + " @" + over + "];": api.ErrForm,
		// ranges
		"main = u8 5..@4;":                                           api.ErrRange,
		"main = u8 1..@0;":                                           api.ErrRange,
		"main = u8 0..@256;":                                         api.ErrRange,
		"main = u8 300..@400;":                                       api.ErrRange,
		"main = u8 300..@300;":                                       api.ErrRange,
		"main = u8 300..@299;":                                       api.ErrRange,
		"main = u8 300@;":                                            api.ErrForm,
		"main = u8 300 @400;":                                        api.ErrForm,
		"main = u16be 0..@65536;":                                    api.ErrRange,
		"main = u24le 0..@16777216;":                                 api.ErrRange,
		"main = u32be 5..@4294967296;":                               api.ErrRange,
		"main = u40be 5..@1099511627776;":                            api.ErrRange,
		"main = u48le 5..@281474976710656;":                          api.ErrRange,
		"main = u56le 5..@72057594037927936;":                        api.ErrRange,
		"main = u64be " + most + "..@0;":                             api.ErrRange,
		"main = varint 1..@0;":                                       api.ErrRange,
		"main = zigzag lenient " + most + "..@18446744073709551614;": api.ErrRange,
		"a = u8 9..@8; main = u8 9..8;":                              api.ErrRange,
		"a = u8 9..@8 8..9":                                          api.ErrRange, // the first one
		// what is left by 0, and 0 times
		"main = switch n % @0 { 0: u8; };":   api.ErrRange,
		"main = bytes [0*@n];":               api.ErrRange,
		"main = bytes [0*@n+1];":             api.ErrRange,
		"main = times [0*@n] u8;":            api.ErrRange,
		"main = within [0 * # so\n @n ] u8;": api.ErrRange,
		"main = bytes [0*@];":                api.ErrForm, // a token without the form comes first
		"main = bytes [0*@size];":            api.ErrForm,
		"main = bytes [0*@5];":               api.ErrForm,
		"main = bytes [0@;":                  api.ErrForm,
	} {
		wantAt(t, text, code)
	}
	for _, text := range []string{
		"u8 255..255", "u16le 0..65535", "u56be 0..72057594037927935", "u64be 0.." + most, "varint " + most + ".." + most,
		"bytes [" + most + "*n+" + most + "]", "bytes [0]", "bytes [n+0]", "switch n % " + most + " { " + most + ": u8; }", "switch n % 1 { 0: u8; }",
	} {
		read(t, "main = "+text+";")
	}
}

// listed: so many of something, with something else between two.
func listed(many int, of func(int) string, between string) string {
	out := make([]string, many)
	for i := range out {
		out[i] = of(i)
	}
	return strings.Join(out, between)
}

// same: the same text, whatever the number.
func same(text string) func(int) string { return func(int) string { return text } }

func TestTooManyParts(t *testing.T) {
	field := func(i int) string { return "f" + strconv.Itoa(i) + ": u8;" }
	value := func(i int) string { return strconv.Itoa(i) + ": u8;" }
	for _, w := range []struct{ begin, list, between, more, end string }{
		{"{", listed(64, field, ""), "", "f: u8;", "}"},
		{"{", listed(64, field, ""), "", "f;", "}"},
		{"switch n {", listed(64, value, ""), "", "64: u8;", "}"},
		{"switch n {", listed(64, value, ""), "", "64: u8;", " else: u8; }"},
		{"oneof {", listed(64, same("u8"), "|"), "|", "u8", "}"},
		{"oneof {", listed(64, same("u8"), "|"), "|", "many many u8", "}"},
		{"chain {", listed(64, same("last u8"), "|"), "|", "last u8", "}"},
		{"chain {", listed(64, same("u8"), "|"), "|", "u8", "}"},
	} {
		ahead := "main = " + w.begin + w.list
		s := read(t, ahead+w.end+";")
		if n := s.Nodes[spec.Root(s)]; max(len(n.Kids), len(n.Fields), len(n.Cases)) != spec.MaxParts {
			t.Errorf("%s: %+v", w.begin, n)
		}
		wantAt(t, ahead+w.between+"@"+w.more+w.end+";", api.ErrLong)
		wantAt(t, ahead+w.between+"@"+w.more+w.end+"; } ; 5", api.ErrLong) // whatever is behind
		wantAt(t, ahead+w.between+"@"+w.more, api.ErrLong)
		wantAt(t, ahead+w.between+"@)", api.ErrForm) // what has not the form comes first
		wantAt(t, ahead+w.between+"@", api.ErrForm)
	}
	wantAt(t, "main = oneof {"+listed(64, same("u8"), "|")+"|@};", api.ErrForm)
	wantAt(t, "main = switch n {"+listed(64, value, "")+"@18446744073709551616: u8; };", api.ErrOver)
	wantAt(t, "main = oneof { oneof {"+listed(64, same("u8"), "|")+" } | oneof {"+listed(64, same("u8"), "|")+"|@u8 } };", api.ErrLong)
}

// tables: texts of as many types as there may be, as names of choices of others, without the last one's end.
func tables(t *testing.T) string {
	t.Helper()
	choice := "oneof {" + listed(63, same("u8"), "|") + "}" // 64 types
	text := listed(31, func(i int) string { return "a" + strconv.Itoa(i) + " = " + choice + "; " }, "")
	s := read(t, text)
	if len(s.Nodes) != spec.MaxNodes-64 {
		t.Fatalf("%d types", len(s.Nodes))
	}
	return text + "main = "
}

func TestTooManyTypes(t *testing.T) {
	text := tables(t)
	full := "oneof {" + listed(63, same("u8"), "|") // and one more is the Choice
	if s := read(t, text+full+"};"); len(s.Nodes) != spec.MaxNodes {
		t.Fatalf("%d types", len(s.Nodes))
	}
	for behind, code := range map[string]api.Errno{
		"};@":                           api.OK,
		"} @}":                          api.ErrForm,
		"}; b = u8@;":                   api.ErrLong, // behind what would be one more
		"}; b = u8 1..2@;":              api.ErrLong,
		"}; b = bytes[n]@; c = u8":      api.ErrLong,
		"}; b = many u8@;":              api.ErrLong,
		"}; b = { x: u8@; };":           api.ErrLong,
		"}; b = { x: u8 @= size(n); };": api.ErrLong,
		"}; b = oneof { u8 @| u8 };":    api.ErrLong,
		"}; b = oneof { u8 @};":         api.ErrLong,
		"}; b = switch n { 0: u8@; };":  api.ErrLong,
		"}; b = u8 @u8;":                api.ErrForm, // what hasn't the form comes first
		"}; b = u8@":                    api.ErrForm,
		"}; b = u8 2..@1;":              api.ErrRange,
		"}; b @b":                       api.ErrForm,
		"| u8 }@;":                      api.ErrLong, // the Choice is
		"| u8 }@":                       api.ErrForm,
		"| many u8 @};":                 api.ErrLong,
		"| many u8 @| u8 };":            api.ErrLong,
	} {
		if code == api.OK {
			wantOK, _ := marked(t, text+full+behind)
			read(t, wantOK)
			continue
		}
		wantAt(t, text+full+behind, code)
	}
}

func TestTooManyNames(t *testing.T) {
	name := func(i int) string { return "a" + strconv.Itoa(i) + " = u8;\n" }
	text := listed(spec.MaxDefs, name, "")
	if s := read(t, text); len(s.Defs) != spec.MaxDefs || s.Defs[spec.MaxDefs-1].Name != "a63" {
		t.Fatalf("%d names", len(s.Defs))
	}
	for behind, code := range map[string]api.Errno{
		"b = u8;@":            api.ErrLong, // behind the `;` of one more
		"b = u8; # so\n @":    api.ErrLong,
		"b = u8; @c = u8;":    api.ErrLong,
		"b = u8; @c":          api.ErrLong,
		"b = oneof { u8 };@":  api.ErrLong,
		"b = u8; @;":          api.ErrForm, // what hasn't the form comes first
		"b = u8; @size = u8;": api.ErrForm,
		"b = u8@":             api.ErrForm,
		"b = u8 2..@1;":       api.ErrRange,
		"@5":                  api.ErrForm,
		"b @b":                api.ErrForm,
	} {
		wantAt(t, text+behind, code)
	}
}

func TestTooDeep(t *testing.T) {
	if parse.MaxDeep != 24 {
		t.Error("MaxDeep")
	}
	// A way leads to a type within another one; its first one leads to the first one there.
	ways := []struct{ first, begin, end string }{
		{"many ", "many ", ""}, {"times[n] ", "times[n] ", ""}, {"within[n] ", "within[n] ", ""}, {"{ a: ", "{ a: ", "; }"}, {"{ a: ", "{ a: u8; b: ", "; }"},
		{"switch n { 0: ", "switch n { 0: ", "; }"}, {"switch n { 0: ", "switch n { 0: u8; else: ", "; }"},
		{"oneof { ", "oneof { ", " }"}, {"oneof { ", "oneof { u8 | ", " }"}, {"chain { ", "chain { ", " }"}, {"chain { last ", "chain { u8 | last ", "| u8 }"},
	}
	kinds := []string{"u8", "varint", "/a/", "bytes[n]", "empty", "other"}
	for i, w := range ways {
		begin, end := "main = "+strings.Repeat(w.begin, 24), strings.Repeat(w.end, 24)+";"
		other := ways[(i+3)%len(ways)]
		for _, kind := range append(kinds, other.first+"u8"+other.end) {
			read(t, "main = "+strings.Repeat(w.begin, 23)+kind+strings.Repeat(w.end, 23)+";")
			wantAt(t, begin+w.first+"@"+kind+w.end+end, api.ErrDeep)
			wantAt(t, begin+w.first+"@"+kind, api.ErrDeep)
		}
		for _, kind := range kinds {
			read(t, begin+kind+end)
		}
		wantAt(t, begin+other.first+"@u8", api.ErrDeep)
		wantAt(t, begin+w.first+"@"+strings.Repeat(w.begin, 20), api.ErrDeep)
		wantAt(t, begin+w.first+"@;", api.ErrForm) // no type
		wantAt(t, begin+w.first+"@size", api.ErrForm)
	}
	wantAt(t, "main = "+strings.Repeat("many ", 25)+"@u8 300..300;", api.ErrDeep)
	read(t, "a = "+strings.Repeat("many ", 24)+"u8; main = "+strings.Repeat("many ", 24)+"a;") // each name by itself
	wantAt(t, "a = "+strings.Repeat("many ", 24)+"u8; main = "+strings.Repeat("many ", 25)+"@a;", api.ErrDeep)
}

// P1: any bytes, and any tokens.
func TestParseEnds(t *testing.T) {
	for c := range 256 {
		for _, text := range []string{string([]byte{byte(c)}), "main = " + string([]byte{byte(c)}), "main = u8;" + string([]byte{byte(c)})} {
			if s, f := parse.Parse(text); f.Code == api.OK {
				read(t, text)
			} else if f.At < 0 || f.At > len(text) || len(s.Nodes)+len(s.Defs) > 0 {
				t.Errorf("%q: %+v, %v", text, s, f)
			}
		}
	}
	for _, word := range append(stray, "n") {
		for _, text := range []string{strings.Repeat(word+" ", 2000), "main = " + strings.Repeat(word+" ", 2000), "main = many " + strings.Repeat("{ n : "+word+" ; ", 1000)} {
			if _, f := parse.Parse(text); f.Code == api.OK {
				t.Errorf("%.30q is right", text)
			}
		}
	}
}

func TestExamples(t *testing.T) {
	wantFault(t, "main = u8", api.Fault{Code: api.ErrForm, At: 9})
	s := read(t, "main = { n: u8 1..9 = size(d); d: bytes[n]; };")
	if len(s.Nodes) != 3 || spec.Def(s, "main") != 2 || s.Nodes[0].Max != 9 {
		t.Errorf("%+v", s)
	}
}
