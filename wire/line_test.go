package wire_test

import (
	"fmt"
	"slices"
	"strings"
	"testing"

	"guipure/api"
	"guipure/lex"
	"guipure/png"
	"guipure/sample"
	"guipure/shelf"
	"guipure/tree"
	"guipure/wire"
)

// wantSaid tells if a line doesn't say what it must, to an engine that keeps three specifications more: one of a number and bytes (a), one of two names (b), and one that is wrong (w).
func wantSaid(t *testing.T, line, want string) {
	t.Helper()
	b := newBoth(t)
	b.do("spec a " + sized)
	b.do("spec b len = u8 1..9; main = { n: u8 1..9; d: times[2*n] len; };")
	b.do("spec w main = many bytes[0];")
	if got := b.do(line); got != want {
		t.Errorf("%q: %q, want %q", line, got, want)
	}
}

// P30.3

func TestNames(t *testing.T) {
	wantSaid(t, "names", "png proto dns a b w")
	wantSaid(t, "names x", "error 5 at 0")
	wantSaid(t, "names a", "error 5 at 0")
	wantSaid(t, "names  ", "error 5 at 0")
	wantSaid(t, "Names", "error 3 at 0")
	b := newBoth(t)
	for _, name := range []string{"proto", "png", "dns"} {
		b.do("drop " + name)
	}
	if got := b.do("names"); got != "" {
		t.Errorf("%q", got)
	}
}

func TestCapsLine(t *testing.T) {
	for line, want := range map[string]string{
		"caps 0 0 0":                            "",
		"caps 1 2 3":                            "",
		"caps 1073741824 1073741824 1073741824": "",
		"caps":                                  "error 5 at 0",
		"caps 1":                                "error 5 at 0",
		"caps 1 2":                              "error 5 at 0",
		"caps 1 2 3 4":                          "error 5 at 0",
		"caps 1 2 3 ":                           "error 5 at 0",
		"caps  1 2 3":                           "error 5 at 0",
		"caps 1  2 3":                           "error 5 at 0",
		"caps 1 2 ":                             "error 5 at 0",
		"caps 01 2 3":                           "error 5 at 0",
		"caps 1 2 0x3":                          "error 5 at 0",
		"caps -1 2 3":                           "error 5 at 0",
		"caps 1 +2 3":                           "error 5 at 0",
		"caps 1,2,3":                            "error 5 at 0",
		"caps a b c":                            "error 5 at 0",
		"caps 1 2 18446744073709551616":         "error 40 at 0",
		"caps 99999999999999999999999 2 3":      "error 40 at 0",
	} {
		wantSaid(t, line, want)
	}
	for at := range 3 { // above 2^30
		n := []string{"5", "5", "5"}
		n[at] = "1073741825"
		b := newBoth(t)
		if got := b.do("caps " + strings.Join(n, " ")); !strings.HasPrefix(got, "error ") {
			t.Errorf("%q: %q", n, got)
		}
	}
}

// Which number is which; and what is refused changes nothing.
func TestCapsAreKept(t *testing.T) {
	for caps, want := range map[string]string{
		"caps 3 2 3":          "0(2,0:0708)",
		"caps 2 2 3":          "error 217 at 2",
		"caps 3 1 3":          "error 218 at 0",
		"caps 3 2 2":          "error 219 at 1",
		"caps 0 2 3":          "error 217 at 0",
		"caps 3 0 3":          "error 218 at 0",
		"caps 3 2 0":          "error 219 at 0",
		"caps 1 1 1 1":        "0(2,0:0708)",
		"caps 1 1":            "0(2,0:0708)",
		"caps 1 1 x":          "0(2,0:0708)",
		"caps 0 0 9999999999": "0(2,0:0708)",
	} {
		b := newBoth(t)
		b.do("spec a " + sized)
		b.do(caps)
		for _, line := range []string{"scan a 020708", "feed a 020708", "feed a 02 _ 0708"} {
			if got := b.do(line); got != want {
				t.Errorf("%s, %s: %q, want %q", caps, line, got, want)
			}
		}
		if got := b.do("write a 0(_0,0:0708)"); got != "020708 0(2,0:0708)" { // which costs none of it
			t.Errorf("%s: %q", caps, got)
		}
	}
	b := newBoth(t)
	b.do("spec a " + sized)
	b.do("caps 1 1 1")
	b.engine.Limit(api.Caps{Input: 5, Depth: 5, Tokens: 5})
	b.model.caps = api.Caps{Input: 5, Depth: 5, Tokens: 5}
	b.do("scan a 020708")
	b.do("caps 1 1 1")
	if _, f := b.engine.Scan("a", []byte{2, 7, 8}); f.Code != api.ErrDepth {
		t.Error(f)
	}
}

func TestSpecLine(t *testing.T) {
	for line, want := range map[string]string{
		"spec c main = u8;":                                  "",
		"spec c main=u8;":                                    "",
		"spec c  main = u8; # a note":                        "",
		"spec c #\nmain\t=\r\nu8;\n":                         "",
		"spec c main = u8":                                   "error 5 at 9",
		"spec c  main = u8":                                  "error 5 at 10",
		"spec c main = $;":                                   "error 100 at 7",
		"spec c main = many bytes[0];":                       "error 160 at 1",
		"spec c main = oneof { u8 0..9 | varint 9..9 };":     "error 161 at 2",
		"spec c main = { n: u8 = size(d); d: bytes[2*n]; };": "error 151 at 2",
		"spec":                 "error 5 at 0",
		"spec ":                "error 5 at 0",
		"spec  main = u8;":     "error 5 at 0", // the name is empty
		"spec c":               "error 5 at 0",
		"spec c ":              "error 5 at 0",
		"spec a main = u8;":    "error 4 at 0",
		"spec a":               "error 4 at 0",
		"spec png main = u8;":  "error 4 at 0",
		"spec w main = u8;":    "error 4 at 0",
		"spec c\nd main = u8;": "error 5 at 0",
		"spec \x80 main = u8;": "error 5 at 0",
		"spec " + strings.Repeat("x", 32) + " main = u8;": "",
		"spec " + strings.Repeat("x", 33) + " main = u8;": "error 5 at 0",
	} {
		wantSaid(t, line, want)
	}
	b := newBoth(t)
	b.do("spec w main = u8") // it is kept all the same
	for _, line := range []string{"scan w 00", "feed w 00", "write w 0", "cost w", "spec w main = u8;", "names", "drop w", "spec w main = u8;", "scan w 00"} {
		b.do(line)
	}
}

func TestDropLine(t *testing.T) {
	wantSaid(t, "drop a", "")
	wantSaid(t, "drop w", "")
	wantSaid(t, "drop png", "")
	wantSaid(t, "drop", "error 3 at 0")
	wantSaid(t, "drop c", "error 3 at 0")
	wantSaid(t, "drop c more", "error 3 at 0")
	wantSaid(t, "drop a more", "error 5 at 0")
	wantSaid(t, "drop a  ", "error 5 at 0")
	wantSaid(t, "drop  a", "error 3 at 0")
	b := newBoth(t)
	for i := range 5 { // the same name, each time of another one
		b.do("spec a main = { n: u8; d: bytes[" + fmt.Sprint(i) + "]; };")
		for _, line := range []string{"show a", "feed a 0102", "scan a 010203", "write a 0(1,0:0203)", "drop a b", "feed a 01 0203", "drop a", "drop a", "feed a 01", "show a"} {
			b.do(line)
		}
	}
}

func TestShowLine(t *testing.T) {
	wantSaid(t, "show a", "main = { n: u8 = size(d); d: bytes[n]; };")
	wantSaid(t, "show b", "len = u8 1..9; main = { n: u8 1..9; d: times[2*n] len; };")
	wantSaid(t, "show png", strings.TrimSuffix(strings.ReplaceAll(png.Text, "\n", " "), " "))
	wantSaid(t, "show c", "error 3 at 0")
	wantSaid(t, "show", "error 3 at 0")
	b := newBoth(t)
	for i, text := range sample.Texts() { // what it says is a text of the same again
		b.do(fmt.Sprintf("spec a%d %s", i, text))
		said := b.do(fmt.Sprintf("show a%d", i))
		b.do(fmt.Sprintf("spec b%d %s", i, said))
		if again := b.do(fmt.Sprintf("show b%d", i)); again != said || strings.Contains(said, "\n") {
			t.Errorf("%q, %q", said, again)
		}
	}
}

func TestScanAndFeedLines(t *testing.T) {
	for rest, want := range map[string]string{
		"a 020708":             "0(2,0:0708)",
		"a 00":                 "0(0,0)",
		"a _":                  "error 10 at 0",
		"a 0207":               "error 10 at 2",
		"a 010708":             "error 216 at 2",
		"b 01090807":           "error 216 at 3",
		"b 010908":             "0(1,0(9,8))",
		"b 0a":                 "error 210 at 0",
		"a":                    "error 5 at 0",
		"a ":                   "error 5 at 0",
		"a 0":                  "error 5 at 0",
		"a 0G":                 "error 5 at 0",
		"a 0A":                 "error 5 at 0",
		"a x":                  "error 5 at 0",
		"a  020708":            "error 5 at 0",
		"w 00":                 "error 160 at 1",
		"w x":                  "error 5 at 0", // ahead of what is wrong with w
		"c 020708":             "error 3 at 0",
		"c x":                  "error 3 at 0",
		"":                     "error 3 at 0",
		" 020708":              "error 3 at 0",
		"proto 08960112026162": "0(0(8,0(150)),0(18,0(0(2,0:6162))))",
		"proto _":              "0",
	} {
		wantSaid(t, "scan "+rest, want)
		wantSaid(t, "feed "+rest, want)
	}
	for line, want := range map[string]string{
		"scan":                           "error 3 at 0",
		"feed":                           "error 3 at 0",
		"scan a 02 0708":                 "error 5 at 0",
		"scan a _ 020708":                "error 5 at 0",
		"scan a 020708 ":                 "error 5 at 0",
		"feed a 02 0708":                 "0(2,0:0708)",
		"feed a 02 07 08":                "0(2,0:0708)",
		"feed a _ 02 _ _ 0708 _":         "0(2,0:0708)",
		"feed a 02 07":                   "error 10 at 2",
		"feed a 01 07 08 09":             "error 216 at 2",
		"feed a _ _":                     "error 10 at 0",
		"feed a 02  0708":                "error 5 at 0",
		"feed a 020708 ":                 "error 5 at 0",
		"feed a 01 07 08 x":              "error 5 at 0", // ahead of the bytes that are left
		"feed w 00 x":                    "error 5 at 0",
		"feed proto 08 96 01 1202 61 62": "0(0(8,0(150)),0(18,0(0(2,0:6162))))",
	} {
		wantSaid(t, line, want)
	}
}

func TestWriteLine(t *testing.T) {
	for line, want := range map[string]string{
		"write a 0(_0,0:0708)":                       "020708 0(2,0:0708)",
		"write a 0(2,0:0708)":                        "020708 0(2,0:0708)",
		"write a 0(_0,0)":                            "00 0(0,0)",
		"write proto 0":                              "_ 0",
		"write a 0(3,0:0708)":                        "error 214 at 2",
		"write a 0(_1,0:0708)":                       "error 180 at 1",
		"write b 0(1,0(1,_0))":                       "error 181 at 4",
		"write b 0(10,0)":                            "error 210 at 1",
		"write a 0":                                  "error 180 at 0",
		"write a":                                    "error 5 at 0",
		"write a ":                                   "error 5 at 0",
		"write a 0(_0,0:070)":                        "error 5 at 0",
		"write a 0(_0, 0:07)":                        "error 5 at 0",
		"write a 0(2,0:0708) ":                       "error 5 at 0",
		"write a 0(_0,18446744073709551616)":         "error 40 at 0",
		"write a " + strings.Repeat("0(", 400) + "0": "error 6 at 0",
		"write w 0(":                                 "error 5 at 0", // ahead of what is wrong with w
		"write w 0":                                  "error 160 at 1",
		"write c 0":                                  "error 3 at 0",
		"write c (":                                  "error 3 at 0",
		"write":                                      "error 3 at 0",
		"write png 0(0:89504e470d0a1a0a,0(0(_0,0:49454e44,0,_0)))": "89504e470d0a1a0a0000000049454e44ae426082 0(0:89504e470d0a1a0a,0(0(0,0:49454e44,0,2923585666)))",
	} {
		wantSaid(t, line, want)
	}
}

func TestCostLine(t *testing.T) {
	wantSaid(t, "cost a", "5 36 2")
	wantSaid(t, "cost w", "error 160 at 1")
	wantSaid(t, "cost c", "error 3 at 0")
	wantSaid(t, "cost", "error 3 at 0")
	b := newBoth(t)
	for _, name := range b.engine.Names() {
		b.do("cost " + name)
	}
}

func TestOtherLines(t *testing.T) {
	for _, word := range []string{"", "x", "Scan", "SCAN", "scans", "sca", "\x00", "scan\t", "name", "é", "error"} {
		wantSaid(t, word, "error 3 at 0")
		wantSaid(t, word+" c", "error 3 at 0")
		wantSaid(t, word+" c more", "error 3 at 0")
		wantSaid(t, word+"  a", "error 3 at 0")
		wantSaid(t, word+" a", "error 5 at 0")
		wantSaid(t, word+" w", "error 5 at 0")
		wantSaid(t, word+" a 020708", "error 5 at 0")
		wantSaid(t, word+" w more", "error 5 at 0")
	}
}

func TestLongLines(t *testing.T) {
	pad := func(begin, sign string, long int) string { return begin + strings.Repeat(sign, long-len(begin)) }
	for _, begin := range []string{"", "names", "caps ", "spec x ", "scan a 02", "drop a ", "write c ", "feed a "} {
		for _, sign := range []string{" ", "0", "x", "\xff"} {
			b := newBoth(t)
			b.do("spec a " + sized)
			if got := b.do(pad(begin, sign, wire.MaxLine+1)); got != "error 2 at 0" {
				t.Errorf("%q, %q: %.99q", begin, sign, got)
			}
			if got := b.do(pad(begin, sign, wire.MaxLine)); strings.HasPrefix(got, "error 2 ") && begin != "spec x " { // whose text is too long by itself
				t.Errorf("%q, %q: %.99q", begin, sign, got)
			}
			b.do("scan a 020708")
		}
	}
	b := newBoth(t)
	b.do("spec a main = many u16be;")
	line := "scan a " + strings.Repeat("0102", (wire.MaxLine-7)/4)
	if got := b.do(line); !strings.HasSuffix(got, ",258)") {
		t.Errorf("%.99q", got)
	}
}

// long: a text of just so many bytes as can be read, the whole of which is 64 numbers of eight bytes; as it is shown it is longer.
func long() string {
	most := strings.Repeat("9", 19)
	text := ""
	for i := 0; ; i++ {
		more := fmt.Sprintf("n%d={", i)
		for j := range 64 {
			more += fmt.Sprintf("%s%02d:u64be %s..%s;", strings.Repeat("x", lex.MaxName-2), j, most, most)
		}
		more += "};"
		if len(text)+len(more) > lex.MaxText {
			return text + strings.Repeat("#", lex.MaxText-len(text))
		}
		text += more
	}
}

// What is fed is read by a specification's own text, though it is longer as it is shown than what can be read.
func TestLongSpecs(t *testing.T) {
	b := newBoth(t)
	b.do("spec a " + long())
	if f := b.engine.Compile("b", b.do("show a")); f != (api.Fault{Code: api.ErrLong}) {
		t.Error(f)
	}
	b = newBoth(t)
	b.do("spec a " + long())
	number := "8ac7230489e7ffff"
	scanned := b.do("scan a " + strings.Repeat(number, 64))
	fed := b.do("feed a " + number[:6] + " " + number[6:] + strings.Repeat(number, 63))
	if scanned != fed || strings.Count(fed, "9999999999999999999") != 64 {
		t.Errorf("%.99s, %.99s", scanned, fed)
	}
}

// some: a line by chance.
func some(m *sample.Maker) string {
	pick := func(list ...string) string { return list[m.UpTo(len(list))] }
	name := pick("a", "a", "b", "b", "c", "d", "proto", "dns", "", "e", "nobody")
	switch m.UpTo(20) {
	case 0, 1, 2:
		all := append(sample.Texts(), sample.Refused()[m.UpTo(12)], "main = u8", "")
		return "spec " + name + " " + pick(all...)
	case 3:
		return "drop " + name
	case 4:
		return fmt.Sprintf("caps %d %d %d", m.UpTo(200), m.UpTo(8), m.UpTo(60))
	case 5:
		return "caps 1000000 100 100000"
	case 6:
		return pick("names", "names x", "names a", "caps", "caps 1 2", "caps 1 2 x", "spec", "drop", "drop c more", "", " ", "x", "x a", "scan", "scan  00")
	case 7:
		return "cost " + name
	case 8, 9:
		return pick("scan ", "feed ") + name + " " + pick("_", "x", "", "0", "00", "01ff", "0f 01", "0F", "00  01", "020708")
	}
	return ""
}

// lineOf: a line with bytes or a tree of what a text tells.
func lineOf(m *sample.Maker, name, text string) string {
	s := made(text).spec
	pairs := m.Pairs(s, 3)
	if len(pairs) == 0 {
		return "scan " + name + " 00"
	}
	p := pairs[m.UpTo(len(pairs))]
	if m.UpTo(3) == 0 {
		p.Bytes = m.Garbled(p.Bytes)
	}
	switch m.UpTo(3) {
	case 0:
		return "scan " + name + " " + wire.Hex(p.Bytes)
	case 1:
		cut := m.UpTo(len(p.Bytes) + 1)
		return "feed " + name + " " + wire.Hex(p.Bytes[:cut]) + " " + wire.Hex(p.Bytes[cut:])
	}
	if m.UpTo(2) == 0 {
		return "write " + name + " " + tree.Text(m.Spoilt(p.Tree))
	}
	return "write " + name + " " + tree.Text(m.Planted(s, 1)[0])
}

func TestLinesBySamples(t *testing.T) {
	m := &sample.Maker{Seed: 33}
	right, wrong := 0, map[string]int{}
	for range 30 {
		b := newBoth(t)
		for range 120 {
			line := some(m)
			if accepted := kept(b.model); line == "" && len(accepted) > 0 {
				name := accepted[m.UpTo(len(accepted))]
				line = lineOf(m, name, b.model.texts[name])
			}
			if m.UpTo(20) == 0 {
				line = string(m.Garbled([]byte(line)))
			}
			said := b.do(line)
			if code, _, ok := strings.Cut(said, " at "); ok {
				wrong[code]++
			} else {
				right++
			}
		}
	}
	if right < 1000 || len(wrong) < 15 {
		t.Errorf("%d are right, %v", right, wrong)
	}
}

// kept: the names of what is accepted, in order.
func kept(m *model) []string {
	var out []string
	for _, name := range m.names {
		if made(m.texts[name]).fault.Code == api.OK {
			out = append(out, name)
		}
	}
	return out
}

// P30.4

func TestRun(t *testing.T) {
	m := &sample.Maker{Seed: 34}
	for range 20 {
		a, b := wire.New(), newModel()
		for range 4 {
			var list, want []string
			for range m.UpTo(30) {
				list = append(list, some(m))
			}
			list = append(list, "spec a "+sized, "scan a 020708", "scan a 0207", "names", "drop a")
			for _, line := range list {
				want = append(want, b.do(line))
			}
			was := slices.Clone(list)
			got := a.Run(list...)
			if !slices.Equal(got, want) || a.Lines() != b.done || !slices.Equal(list, was) {
				t.Fatalf("%q: %q, %d, want %q, %d", list, got, a.Lines(), want, b.done)
			}
		}
	}
	e := wire.New()
	if got := e.Run(); len(got) != 0 || e.Lines() != 0 {
		t.Errorf("%q, %d", got, e.Lines())
	}
}

func TestLines(t *testing.T) {
	e := wire.New()
	many := 0
	for _, w := range []struct {
		line string
		more int
	}{
		{"names", 1}, {"names x", 0}, {"", 0}, {"caps 9 9 9", 1}, {"caps", 0}, {"spec a " + sized, 1}, {"spec a " + sized, 0}, {"spec b main = u8", 0},
		{"scan a 0107", 1}, {"scan a 01", 0}, {"feed a 01 07", 1}, {"feed a 01", 0}, {"write a 0(_0,0)", 1}, {"write a 0", 0}, {"show a", 1}, {"show c", 0},
		{"cost a", 1}, {"cost b", 0}, {"drop a", 1}, {"drop a", 0}, {"drop b", 1}, {"x png", 0}, {strings.Repeat(" ", wire.MaxLine+1), 0},
	} {
		e.Do(w.line)
		many += w.more
		if got := e.Lines(); got != many {
			t.Errorf("%.99q: %d, want %d", w.line, got, many)
		}
	}
	e.Compile("c", sized)
	e.Scan("c", []byte{0})
	e.Serialise("c", tree.Num(0))
	e.Limit(wire.Caps())
	if got := e.Lines(); got != many { // none of these is a line
		t.Errorf("%d, want %d", got, many)
	}
}

// Two engines share nothing.
func TestEnginesAreTheirOwn(t *testing.T) {
	a, b := newBoth(t), newBoth(t)
	a.do("spec a " + sized)
	b.do("names")
	b.do("scan a 00")
	b.do("spec a main = u8;")
	a.do("drop png")
	a.do("caps 1 1 1")
	for _, line := range []string{"names", "scan a 00", "feed a 00", "show a", "write a 0", "scan png 00", "cost png"} {
		a.do(line)
		b.do(line)
	}
}

// The engine keeps as many as a shelf does.
func TestFullEngines(t *testing.T) {
	b := newBoth(t)
	for i := len(b.model.names); i <= shelf.MaxItems; i++ {
		b.do(fmt.Sprintf("spec n%d main = u8;", i))
	}
	b.do("drop n7")
	b.do("spec n7 " + sized)
	b.do("spec n8 " + sized)
	b.do("spec more " + sized)
	b.do("feed n7 01 02")
}

// P1

func TestAnyLines(t *testing.T) {
	m := &sample.Maker{Seed: 35}
	e := wire.New()
	for range 5000 {
		line := []byte([]string{"names", "caps 1 1 1", "spec a main = u8;", "drop a", "show dns", "scan a 00", "feed a 00 _", "write a 0(5)", "cost a"}[m.UpTo(9)])
		for range m.UpTo(4) {
			line = m.Garbled(line)
		}
		e.Do(string(line))
	}
	for _, x := range sample.Rows(3) {
		e.Do(string(x))
	}
}

// What stands in the document as examples.
func TestExamples(t *testing.T) {
	e := wire.New()
	said := e.Run(
		"spec a "+sized, "scan a 020708", "write a 0(_0,0:0708)",
		"spec b main = { n: u8 = size(d); d: bytes[2*n]; };",
		"spec c main = oneof { u8 0..9 | varint 9..9 };",
		"spec d main = { n: u8 1..9 = size(d); d: bytes[n]; };", "scan d 020708", "scan d 0207", "cost d",
		"scan proto 089601", "write proto 0(0(8,0(150)))",
	)
	want := []string{
		"", "0(2,0:0708)", "020708 0(2,0:0708)",
		"error 151 at 2",
		"error 161 at 2",
		"", "0(2,0:0708)", "error 10 at 2", "5 36 2",
		"0(0(8,0(150)))", "089601 0(0(8,0(150)))",
	}
	if !slices.Equal(said, want) {
		t.Errorf("%q, want %q", said, want)
	}
}
