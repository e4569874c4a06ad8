package dns_test

import (
	"bytes"
	"encoding/hex"
	"fmt"
	"math"
	"slices"
	"strings"
	"sync"
	"testing"

	"guipure/api"
	"guipure/dns"
	"guipure/emit"
	"guipure/lower"
	"guipure/sample"
	"guipure/tree"
)

// raw: the bytes of digits to the base 16, with blanks where one likes.
func raw(t *testing.T, digits string) []byte {
	t.Helper()
	b, err := hex.DecodeString(strings.ReplaceAll(digits, " ", ""))
	if err != nil {
		t.Fatal(err)
	}
	return b
}

// trial: how reading is tried.
func trial(t *testing.T) sample.Format[dns.Message] {
	t.Helper()
	r, f := lower.Make(dns.Spec())
	if f.Code != api.OK {
		t.Fatal(f)
	}
	return sample.Format[dns.Message]{Read: dns.New().Read, Program: r, Cut: cut, Same: same, Text: text}
}

// text: a message as a text.
func text(m dns.Message) string { return fmt.Sprint(m) }

// wantRead tells what is wrong with what is read of bytes.
func wantRead(t *testing.T, x sample.Format[dns.Message], b []byte, caps api.Caps) api.Fault {
	t.Helper()
	f, wrong := x.Try(b, caps)
	if wrong != "" {
		t.Error(wrong)
	}
	return f
}

// P29.1, P29.2

func TestText(t *testing.T) {
	if wrong := sample.Source(dns.Text, dns.Spec); wrong != "" {
		t.Error(wrong)
	}
}

func TestLimits(t *testing.T) {
	if dns.MaxLabel != 63 || dns.MaxName != 255 || dns.MaxJumps != 64 {
		t.Error("MaxLabel, MaxName, MaxJumps")
	}
}

// example: a question of `ab.c.`, and an answer whose name is a pointer to it.
func example() dns.Message {
	return dns.Message{
		ID: 0x1234, Flags: 0x8180,
		Questions: []dns.Question{{Name: named("ab.c"), Type: 1, Class: 1}},
		Records:   [3][]dns.Record{{{Name: dns.Name{Pointer: 12}, Type: 1, Class: 1, TTL: 300, Data: []byte{10, 0, 0, 1}}}},
	}
}

func TestReadRightOnes(t *testing.T) {
	x := trial(t)
	long := strings.Repeat("x", 63)
	for digits, want := range map[string]dns.Message{
		"0000 0000 0000 0000 0000 0000": {},
		"0102 0304 0000 0000 0000 0000": {ID: 0x0102, Flags: 0x0304},
		"ffff ffff 0000 0000 0000 0000": {ID: 65535, Flags: 65535},
		"1234 8180 0001 0001 0000 0000 02 6162 01 63 00 0001 0001 c00c 0001 0001 0000012c 0004 0a000001": example(),
		"0000 0000 0001 0000 0000 0000 00 0102 0304": {
			Questions: []dns.Question{{Name: root(), Type: 0x0102, Class: 0x0304}},
		},
		"0000 0000 0002 0000 0000 0000 01 61 c000 0001 0002 ffff 0003 0004": {
			Questions: []dns.Question{{Name: dns.Name{Labels: []string{"a"}}, Type: 1, Class: 2}, {Name: dns.Name{Pointer: 16383}, Type: 3, Class: 4}},
		},
		"0000 0000 0000 0000 0000 0001 00 0029 04d0 80000001 0000": {
			Records: [3][]dns.Record{2: {{Name: root(), Type: 41, Class: 1232, TTL: 1<<31 + 1}}},
		},
		"0000 0000 0000 0001 0002 0000 00 0001 0001 00000000 0001 01 00 0002 0001 00000000 0001 02 00 0003 0001 ffffffff 0002 0300": {
			Records: [3][]dns.Record{
				{{Name: root(), Type: 1, Class: 1, Data: []byte{1}}},
				{{Name: root(), Type: 2, Class: 1, Data: []byte{2}}, {Name: root(), Type: 3, Class: 1, TTL: 1<<32 - 1, Data: []byte{3, 0}}},
			},
		},
		"0000 0000 0001 0000 0000 0000 3f" + hex.EncodeToString([]byte(long)) + "02 002e 00 0000 0000": { // any bytes may be in a label
			Questions: []dns.Question{{Name: dns.Name{Labels: []string{long, "\x00."}, Pointer: -1}}},
		},
	} {
		b := raw(t, digits)
		if got, fault := x.Read(b, sample.Ample()); fault != (api.Fault{}) || !same(got, want) {
			t.Errorf("%s: %+v, %v, want %+v", digits, got, fault, want)
		}
		wantRead(t, x, b, sample.Ample())
		for many := range len(b) {
			wantRead(t, x, b[:many], sample.Ample())
		}
	}
}

func TestReadWrongOnes(t *testing.T) {
	x := trial(t)
	const question = "0000 0000 0001 0000 0000 0000"
	for _, w := range []struct {
		bytes string
		code  api.Errno
		at    int
	}{
		{"", api.ErrEnd, 0},
		{"00", api.ErrEnd, 1},
		{"0000 0000 0000 0000 0000 00", api.ErrEnd, 11},
		{"0000 0000 0000 0000 0000 0000 00", api.ErrRest, 12},
		{question, api.ErrEnd, 12},
		{question + "40", api.ErrChoice, 12},
		{question + "7f 00", api.ErrChoice, 12},
		{question + "80", api.ErrChoice, 12},
		{question + "bf ff", api.ErrChoice, 12},
		{question + "01 61 40", api.ErrChoice, 14},
		{question + "c0", api.ErrEnd, 13},
		{question + "ff", api.ErrEnd, 13},
		{question + "01", api.ErrEnd, 13},
		{question + "03 6162", api.ErrEnd, 15},
		{question + "01 61", api.ErrEnd, 14},
		{question + "00 0001 00", api.ErrEnd, 16},
		{question + "00 0001 0001 00", api.ErrRest, 17},
		{"0000 0000 0002 0000 0000 0000 00 0001 0001", api.ErrEnd, 17},
		{"0000 0000 0000 0001 0000 0000 00 0001 0001 00000000 0003 0102", api.ErrEnd, 25},
		{"0000 0000 0000 0001 0000 0000 00 0001 0001 00000000 0001 0102", api.ErrRest, 24},
		{"0000 0000 0000 0000 ffff 0000 00 0001 0001 00000000 0000", api.ErrEnd, 23},
	} {
		if fault := wantRead(t, x, raw(t, w.bytes), sample.Ample()); fault != (api.Fault{Code: w.code, At: w.at}) {
			t.Errorf("%s: %v, want %v at %d", w.bytes, fault, w.code, w.at)
		}
	}
	for a := range 256 { // each byte with which a name's part begins
		wantRead(t, x, raw(t, question+hex.EncodeToString([]byte{byte(a), 1, 2, 0, 0, 1, 0, 1})), sample.Ample())
		wantRead(t, x, append(raw(t, question+hex.EncodeToString([]byte{byte(a)})), make([]byte, a+5)...), sample.Ample())
	}
}

func TestReadCaps(t *testing.T) {
	x := trial(t)
	m := example()
	b := bytesOf(m) // its whole and its ten parts; a question's three, a record's six; of three labels and a pointer
	enough := api.Caps{Input: len(b), Depth: 7, Tokens: 11 + 1 + 3 + 2*4 + 2 + 1 + 6 + 2}
	if fault := wantRead(t, x, b, enough); fault != (api.Fault{}) {
		t.Error(fault)
	}
	for _, w := range []struct {
		caps api.Caps
		code api.Errno
	}{
		{api.Caps{Input: enough.Input - 1, Depth: enough.Depth, Tokens: enough.Tokens}, api.ErrInput},
		{api.Caps{Input: enough.Input, Depth: enough.Depth - 1, Tokens: enough.Tokens}, api.ErrDepth},
		{api.Caps{Input: enough.Input, Depth: enough.Depth, Tokens: enough.Tokens - 1}, api.ErrTokens},
		{api.Caps{}, api.ErrDepth},
	} {
		if fault := wantRead(t, x, b, w.caps); fault.Code != w.code {
			t.Errorf("%+v: %v, want %v", w.caps, fault, w.code)
		}
	}
	for _, caps := range sample.AnyCaps() {
		wantRead(t, x, b, caps)
		wantRead(t, x, nil, caps)
	}
}

func TestReadSamples(t *testing.T) {
	m, x := &sample.Maker{Seed: 29}, trial(t)
	rights := 0
	for range 2000 {
		made := message(m, 3)
		b := bytesOf(made)
		if fault := wantRead(t, x, b, sample.Ample()); fault != (api.Fault{}) {
			t.Errorf("%x: %v", b, fault)
		}
		p := sample.Pair{Bytes: b, Tree: dns.Tree(made)}
		wantRead(t, x, b, m.Caps(p))
		b = m.Garbled(b)
		if fault := wantRead(t, x, b, sample.Ample()); fault.Code == api.OK {
			rights++
		}
		wantRead(t, x, m.Garbled(b), m.Caps(p))
	}
	if rights < 200 || rights > 1800 {
		t.Errorf("%d are right", rights)
	}
	for _, p := range m.Pairs(dns.Spec(), 300) {
		wantRead(t, x, p.Bytes, m.Caps(p))
	}
}

// Messages as they go over the wire: a question and its answer, and two of other programs.
func TestRealOnes(t *testing.T) {
	x := trial(t)
	question := []dns.Question{{Name: named("example.com"), Type: 1, Class: 1}}
	edns := dns.Record{Name: root(), Type: 41, Class: 1232}
	for digits, want := range map[string]dns.Message{
		"aaaa0100000100000000000007 6578616d706c65 03 636f6d 00 0001 0001": {ID: 0xaaaa, Flags: 0x0100, Questions: question},
		"aaaa8180000100010000000007 6578616d706c65 03 636f6d 00 0001 0001 c00c 0001 0001 0000184c 0004 5db8d822": {
			ID: 0xaaaa, Flags: 0x8180, Questions: question,
			Records: [3][]dns.Record{{{Name: dns.Name{Pointer: 12}, Type: 1, Class: 1, TTL: 6220, Data: []byte{93, 184, 216, 34}}}},
		},
		"1a0d0100000100000000000104736f6d65076578616d706c65036f726700000f000100002904d0000000000000": {
			ID: 0x1a0d, Flags: 0x0100, Questions: []dns.Question{{Name: named("some.example.org"), Type: 15, Class: 1}},
			Records: [3][]dns.Record{2: {edns}},
		},
	} {
		b := raw(t, digits)
		if fault := wantRead(t, x, b, sample.Ample()); fault != (api.Fault{}) {
			t.Errorf("%s: %v", digits, fault)
		}
		if got, _ := x.Read(b, sample.Ample()); !same(got, want) {
			t.Errorf("%s: %+v, want %+v", digits, got, want)
		}
		if got, fault := dns.New().Write(want); fault != (api.Fault{}) || !bytes.Equal(got, b) {
			t.Errorf("%x, %v, want %s", got, fault, digits)
		}
	}
}

// What is answered is new memory.
func TestReadAnswersItsOwn(t *testing.T) {
	f := dns.New()
	data := func(b ...byte) dns.Record { return dns.Record{Name: named("a.b"), Data: b} }
	m := dns.Message{Records: [3][]dns.Record{{data(1, 2, 3), data(4)}, {data(5)}}}
	b := bytesOf(m)
	for range 3 {
		got, fault := f.Read(b, sample.Ample())
		if fault != (api.Fault{}) || !same(got, m) {
			t.Fatalf("%+v, %v", got, fault)
		}
		other, _ := f.Read(b, sample.Ample())
		answers := got.Records[0][:cap(got.Records[0])]
		first := answers[0].Data[:cap(answers[0].Data)]
		for i := range first {
			first[i] = 99
		}
		labels := answers[0].Name.Labels[:cap(answers[0].Name.Labels)]
		for i := range labels {
			labels[i] = "x"
		}
		if !sameRecord(answers[1], data(4)) || !sameRecord(got.Records[1][0], data(5)) || !same(other, m) || !bytes.Equal(b, bytesOf(m)) {
			t.Errorf("%+v, %+v, %x", got, other, b)
		}
		for i := range answers {
			answers[i] = dns.Record{}
		}
		if !sameRecord(got.Records[1][0], data(5)) || !same(other, m) {
			t.Errorf("%+v, %+v", got, other)
		}
	}
}

// P29.3

func TestTree(t *testing.T) {
	for want, m := range map[string]dns.Message{
		"0(0,0,_0,_0,_0,_0,0,0,0,0)": {},
		"0(4660,33152,_0,_0,_0,_0,0(0(0(0(0(_0,0:6162)),0(0(_0,0:63)),1(0)),1,1)),0(0(0(2(49164)),1,1,300,_0,0:0a000001)),0,0)": example(),
		"0(0,0,_0,_0,_0,_0,0(0(0(1(0)),2,3)),0,0(0(0(2(65535)),0,0,0,_0,0)),0(0(0(0(0(_0,0:61)),2(49152)),4,5,6,_0,0:07),0(0(1(0)),0,0,0,_0,0)))": {
			Questions: []dns.Question{{Name: root(), Type: 2, Class: 3}},
			Records: [3][]dns.Record{
				1: {{Name: dns.Name{Pointer: 16383}}},
				2: {{Name: dns.Name{Labels: []string{"a"}}, Type: 4, Class: 5, TTL: 6, Data: []byte{7}}, {Name: root()}},
			},
		},
	} {
		if got := tree.Text(dns.Tree(m)); got != want {
			t.Errorf("%+v: %s, want %s", m, got, want)
		}
	}
	m := example()
	for range 2 { // it shares nothing
		x, y := dns.Tree(m), dns.Tree(m)
		sample.Spoil(x)
		if !tree.Same(y, dns.Tree(example())) || !same(m, example()) {
			t.Errorf("%s, %+v", tree.Text(y), m)
		}
		m.Records[0][0].Data[0] = 9
		m.Questions[0].Name.Labels[0] = "z"
		if !tree.Same(y, dns.Tree(example())) {
			t.Errorf("%s", tree.Text(y))
		}
		m = example()
	}
}

func TestCheck(t *testing.T) {
	long := strings.Repeat("x", dns.MaxLabel)
	for _, w := range []struct {
		name dns.Name
		want api.Errno
	}{
		{root(), api.OK},
		{dns.Name{}, api.OK}, // a pointer to 0
		{named("a.b.c"), api.OK},
		{dns.Name{Labels: []string{long, "\x00", ".", "é"}, Pointer: 16383}, api.OK},
		{dns.Name{Labels: slices.Repeat([]string{long}, 9), Pointer: -1}, api.OK}, // longer than MaxName
		{dns.Name{Labels: []string{""}, Pointer: -1}, api.ErrLong},
		{dns.Name{Labels: []string{"a", "b", ""}, Pointer: -1}, api.ErrLong},
		{dns.Name{Labels: []string{"a", long + "x"}, Pointer: -1}, api.ErrLong},
		{dns.Name{Labels: []string{strings.Repeat("é", 32)}, Pointer: -1}, api.ErrLong}, // bytes are counted
		{dns.Name{Pointer: 16384}, api.ErrRange},
		{dns.Name{Pointer: -2}, api.ErrRange},
		{dns.Name{Pointer: math.MaxInt}, api.ErrRange},
		{dns.Name{Pointer: math.MinInt}, api.ErrRange},
		{dns.Name{Labels: []string{"a"}, Pointer: 1 << 16}, api.ErrRange},
		{dns.Name{Labels: []string{""}, Pointer: -2}, api.ErrLong}, // ahead of ErrRange
		{dns.Name{Labels: []string{long + long}, Pointer: 16384}, api.ErrLong},
	} {
		if e := dns.Check(w.name); e != w.want {
			t.Errorf("%+v: %v, want %v", w.name, e, w.want)
		}
	}
	for many := range 300 {
		want := api.OK
		if many < 1 || many > 63 {
			want = api.ErrLong
		}
		if e := dns.Check(dns.Name{Labels: []string{strings.Repeat("y", many)}}); e != want {
			t.Errorf("%d bytes: %v, want %v", many, e, want)
		}
	}
}

// writer: layer 24's.
func writer(t *testing.T) *emit.Writer {
	t.Helper()
	w, f := emit.New(dns.Spec())
	if f.Code != api.OK {
		t.Fatal(f)
	}
	return w
}

// wantWrite tells if what is written of a message, whose names may be, isn't layer 24's.
func wantWrite(t *testing.T, f *dns.Format, w *emit.Writer, m dns.Message) api.Fault {
	t.Helper()
	b, fault := f.Write(m)
	want, _, told := w.Write(dns.Tree(m), 1<<16)
	if fault != told || !bytes.Equal(b, want) {
		t.Errorf("%+v: %x, %v, want %x, %v", m, b, fault, want, told)
	}
	if fault.Code == api.OK && !bytes.Equal(b, bytesOf(m)) {
		t.Errorf("%+v: %x, want %x", m, b, bytesOf(m))
	}
	return fault
}

func TestWrite(t *testing.T) {
	m, f, w, x := &sample.Maker{Seed: 92}, dns.New(), writer(t), trial(t)
	for range 1000 {
		made := message(m, 4)
		if fault := wantWrite(t, f, w, made); fault != (api.Fault{}) {
			t.Errorf("%+v: %v", made, fault)
		}
		b, _ := f.Write(made)
		if got, fault := f.Read(b, sample.Ample()); fault != (api.Fault{}) || !same(got, made) {
			t.Errorf("%+v: %+v, %v", made, got, fault)
		}
		wantRead(t, x, b, sample.Ample())
	}
}

// places: a message with eight names, two in each list.
func places() (dns.Message, []*dns.Name) {
	m := dns.Message{Questions: []dns.Question{{Name: root()}, {Name: root()}}}
	all := []*dns.Name{&m.Questions[0].Name, &m.Questions[1].Name}
	for i := range m.Records {
		list := []dns.Record{{Name: root()}, {Name: root()}}
		m.Records[i] = list
		all = append(all, &list[0].Name, &list[1].Name)
	}
	return m, all
}

func TestWriteWrongNames(t *testing.T) {
	f := dns.New()
	long := dns.Name{Labels: []string{"a", ""}, Pointer: -1}
	far := dns.Name{Pointer: 16384}
	for i := range 8 {
		for j := range 8 {
			m, all := places()
			*all[j] = far
			*all[i] = long
			want := api.Fault{Code: api.ErrRange}
			if i <= j {
				want = api.Fault{Code: api.ErrLong}
			}
			if b, fault := f.Write(m); fault != want || len(b) != 0 {
				t.Errorf("%+v: %x, %v, want %v", m, b, fault, want)
			}
		}
	}
	m, all := places()
	*all[7] = far
	m.Records[0][0].Data = make([]byte, 1<<17) // which is told behind
	if b, fault := f.Write(m); fault != (api.Fault{Code: api.ErrRange}) || len(b) != 0 {
		t.Errorf("%x, %v", b, fault)
	}
}

func TestWriteLongOnes(t *testing.T) {
	f, w := dns.New(), writer(t)
	const around = 12 + 1 + 10
	data := make([]byte, 1<<17)
	for i := range data {
		data[i] = byte(i * 7)
	}
	with := func(many int) dns.Message {
		return dns.Message{Records: [3][]dns.Record{1: {{Name: root(), Data: data[:many]}}}}
	}
	m := with(1<<16 - around)
	b, fault := f.Write(m)
	if fault != (api.Fault{}) || len(b) != 1<<16 || !bytes.Equal(b, bytesOf(m)) {
		t.Errorf("%d, %v", len(b), fault)
	}
	for many, want := range map[int]api.Fault{
		1<<16 - around + 1: {Code: api.ErrLong},
		1<<16 - 1:          {Code: api.ErrLong},
		1 << 16:            {Code: api.ErrValue, At: 9 + 1 + 1 + 2 + 4}, // so many its length can't tell
		1 << 17:            {Code: api.ErrValue, At: 9 + 1 + 1 + 2 + 4},
	} {
		if b, fault := f.Write(with(many)); fault.Code != want.Code || len(b) != 0 {
			t.Errorf("%d: %d, %v, want %v", many, len(b), fault, want)
		}
		wantWrite(t, f, w, with(many))
	}
	crowd := dns.Message{Questions: slices.Repeat([]dns.Question{{Name: root()}}, 1<<16)}
	if fault := wantWrite(t, f, w, crowd); fault != (api.Fault{Code: api.ErrValue, At: 3}) { // so many can't be counted
		t.Error(fault)
	}
	crowd.Questions = crowd.Questions[:1<<16-1]
	if fault := wantWrite(t, f, w, crowd); fault != (api.Fault{Code: api.ErrLong}) {
		t.Error(fault)
	}
	crowd.Questions = crowd.Questions[:(1<<16-12)/5]
	if fault := wantWrite(t, f, w, crowd); fault != (api.Fault{}) {
		t.Error(fault)
	}
}

// P1, P2

// One may be used by several goroutines at the same time: what it needs is made when it is asked first.
func TestManyAtOnce(t *testing.T) {
	f := dns.New()
	m := example()
	var group sync.WaitGroup
	for range 12 {
		group.Go(func() {
			b, fault := f.Write(m)
			got, again := f.Read(bytesOf(m), sample.Ample())
			if fault != (api.Fault{}) || again != fault || !bytes.Equal(b, bytesOf(m)) || !same(got, m) {
				t.Errorf("%x, %v, %+v, %v", b, fault, got, again)
			}
		})
	}
	group.Wait()
}

// What a Format was asked before, refused or not, changes nothing.
func TestFormatsAreAlike(t *testing.T) {
	used := dns.New()
	m := &sample.Maker{Seed: 5}
	for range 200 {
		made := message(m, 4)
		if len(made.Questions) > 0 && m.UpTo(3) == 0 {
			made.Questions[0].Name.Pointer = 1 << 14
		}
		b := m.Garbled(bytesOf(made))
		caps := m.Caps(sample.Pair{Bytes: b, Tree: dns.Tree(made)})
		got, fault := used.Read(b, caps)
		want, told := dns.New().Read(b, caps)
		out, wrong := used.Write(made)
		fresh, first := dns.New().Write(made)
		if fault != told || !same(got, want) || wrong != first || !bytes.Equal(out, fresh) {
			t.Fatalf("%x: %v, %v, %v, %v", b, fault, told, wrong, first)
		}
	}
}

// Lists that are handed in, with their spare room, stay as they are; nothing of them is kept.
func TestArgumentsStay(t *testing.T) {
	room := []byte{1, 2, 3, 4, 5, 6}
	labels := append(make([]string, 0, 8), "a", "b")
	records := append(make([]dns.Record, 0, 8), dns.Record{Name: dns.Name{Labels: labels, Pointer: 5}, Data: room[:2]}, dns.Record{Name: root(), Data: room[3:4:5]})
	questions := append(make([]dns.Question, 0, 8), dns.Question{Name: dns.Name{Labels: labels[:1], Pointer: -1}})
	m := dns.Message{Questions: questions, Records: [3][]dns.Record{records, records[:1], records[1:]}}
	want := bytesOf(m)
	b, fault := dns.New().Write(m)
	sample.Spoil(dns.Tree(m))
	dns.Check(records[0].Name)
	dns.Join(labels[:1]...)
	if fault != (api.Fault{}) || !bytes.Equal(b, want) || !bytes.Equal(bytesOf(m), want) || !bytes.Equal(room, []byte{1, 2, 3, 4, 5, 6}) {
		t.Errorf("%x, %v, %v", b, fault, room)
	}
	if rest := labels[2:8]; slices.ContainsFunc(rest, func(s string) bool { return s != "" }) || labels[1] != "b" {
		t.Errorf("%q", labels[:8])
	}
	for _, r := range records[2:8] {
		if !sameRecord(r, dns.Record{}) {
			t.Errorf("%+v", r)
		}
	}
	room[0], labels[0] = 99, "z"
	if !bytes.Equal(b, want) {
		t.Errorf("%x", b)
	}
}

func TestRawArguments(t *testing.T) {
	f := dns.New()
	for _, pointer := range []int{math.MinInt, -49153, -49152, -2, -1, 0, 1, 16383, 16384, 65535, 1 << 40, math.MaxInt} {
		for _, label := range []string{"", "a", "\xff", strings.Repeat("x", 64), strings.Repeat("x", 1<<17)} {
			n := dns.Name{Labels: []string{label, label}, Pointer: pointer}
			m := dns.Message{Questions: []dns.Question{{Name: n}}, Records: [3][]dns.Record{1: {{Name: n, Data: []byte(label)}}}}
			e := dns.Check(n)
			b, fault := f.Write(m)
			if e != api.OK && (fault != api.Fault{Code: e} || len(b) != 0) || e == api.OK && fault != (api.Fault{}) {
				t.Errorf("%+v: %v, %v", n, e, fault)
			}
			if got := tree.Parts(dns.Tree(m)); got != 11+1+3+2*4+2+1+6+2*4+2 {
				t.Errorf("%+v: %d parts", n, got)
			}
			dns.Join(n.Labels...)
		}
	}
	f.Read(nil, api.Caps{Input: math.MinInt, Depth: math.MaxInt, Tokens: math.MinInt})
}

func TestExamples(t *testing.T) {
	b, f := dns.New().Write(example())
	if f != (api.Fault{}) {
		t.Fatal(f)
	}
	for at, end := range map[int]int{12: 12 + 6, 12 + 6 + 4: 12 + 6 + 4 + 2} {
		labels, got, e := dns.Resolve(b, at)
		if e != api.OK || !slices.Equal(labels, []string{"ab", "c"}) || got != end || dns.Join(labels...) != "ab.c." {
			t.Errorf("at %d: %q, %d, %v", at, labels, got, e)
		}
	}
}
