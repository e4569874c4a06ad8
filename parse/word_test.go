package parse_test

import (
	"strconv"
	"strings"
	"testing"

	"guipure/parse"
)

// words are all that have a meaning of their own but a Fixed's, as the chapter has them.
const words = "varint zigzag lenient bytes times many within switch else oneof chain last empty size count crc"

// fixedWords: the words of numbers, as the chapter has them: how many bytes, and whether the lowest one is first.
func fixedWords() map[string]int {
	out := map[string]int{"u8": 1}
	for width := 2; width <= 8; width++ {
		out["u"+strconv.Itoa(8*width)+"be"] = width
		out["u"+strconv.Itoa(8*width)+"le"] = width
	}
	return out
}

// others: names that are no words.
func others() []string {
	out := []string{
		"", " ", "u", "u8be", "u8le", "u08", "U8", "u8 ", " u8", "u88", "8", "u0", "u0be", "u1", "u1be", "u7be", "u9be", "u12be", "u15le", "u17le",
		"u16", "u32", "u64", "u16BE", "u16Be", "u16ne", "u16b", "u16l", "u16e", "u16bee", "u16bele", "u16lele", "u16 be", "u016be", "ube", "ule", "be", "le",
		"16be", "u-16be", "u+16be", "u1_6be", "u65le", "u66be", "u72be", "u72le", "u80be", "u128le", "u256be", "uu16be", "v16be", "xu16be",
		"u18446744073709551616be", "u18446744073709551632be", "u18446744073709551624le", "u340282366920938463463374607431768211472be",
		"main", "a", "_", "_size", "sizes", "Size", "SIZE", "siz", "crc32", "CRC", "var", "varints", "zig", "zag", "by", "byte", "time", "man", "with", "in",
		"switches", "case", "if", "els", "elses", "one", "of", "chains", "lasts", "empt", "counts", "u8\x00", "\xff", "size count", "varint ",
	}
	for width := range 70 {
		if width%8 != 0 || width < 16 || width > 64 {
			out = append(out, "u"+strconv.Itoa(width)+"be", "u"+strconv.Itoa(width)+"le")
		}
	}
	return out
}

// P12.3

func TestFixed(t *testing.T) {
	for name, want := range fixedWords() {
		if width, little, ok := parse.Fixed(name); width != want || little != strings.HasSuffix(name, "le") || !ok {
			t.Errorf("Fixed of %q: %d, %t, %t", name, width, little, ok)
		}
	}
	for _, name := range append(others(), strings.Fields(words)...) {
		if width, little, ok := parse.Fixed(name); width != 0 || little || ok {
			t.Errorf("Fixed of %q: %d, %t, %t", name, width, little, ok)
		}
	}
}

func TestWord(t *testing.T) {
	for _, name := range strings.Fields(words) {
		if !parse.Word(name) {
			t.Errorf("%q is a word", name)
		}
	}
	for name := range fixedWords() {
		if !parse.Word(name) {
			t.Errorf("%q is a word", name)
		}
	}
	for _, name := range others() {
		if parse.Word(name) {
			t.Errorf("%q is no word", name)
		}
	}
}
