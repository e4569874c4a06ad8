package parse_test

import (
	"slices"
	"strings"

	"guipure/lex"
)

// grammar: which tokens a text may have, as P12.1 tells it; a line a rule.
const grammar = `
Text Def
Text Text Def
Def NAME = Type ;
Type FIXED Range
Type varint Lenient Range
Type zigzag Lenient Range
Type PATTERN
Type bytes Often
Type times Often Type
Type within Often Type
Type many Type
Type { Fields }
Type switch NAME Mod { Cases Else }
Type oneof { Kids }
Type chain { Links }
Type empty
Type NAME
Range
Range NUMBER .. NUMBER
Lenient
Lenient lenient
Often [ NUMBER ]
Often [ Mul NAME Add ]
Mul
Mul NUMBER *
Add
Add + NUMBER
Fields Field
Fields Fields Field
Field NAME : Type Derive ;
Derive
Derive = size ( NAME )
Derive = count ( NAME )
Derive = crc ( NAME .. NAME )
Mod
Mod % NUMBER
Cases Case
Cases Cases Case
Case NUMBER : Type ;
Else
Else else : Type ;
Kids Type
Kids Kids | Type
Links Link
Links Links | Link
Link Type
Link last Type
`

// rules: by what each stands for, all that it may be.
func rules() map[string][][]string {
	out := map[string][][]string{}
	for _, line := range strings.Split(strings.TrimSpace(grammar), "\n") {
		parts := strings.Fields(line)
		out[parts[0]] = append(out[parts[0]], parts[1:])
	}
	return out
}

// sort: what a token is in the grammar.
func sort(t lex.Token) string {
	_, fixed := fixedWords()[t.Text]
	switch {
	case t.Kind == lex.Number:
		return "NUMBER"
	case t.Kind == lex.Pattern && t.Text != "":
		return "PATTERN"
	case t.Kind == lex.Name && fixed:
		return "FIXED"
	case t.Kind == lex.Name && !slices.Contains(strings.Fields(words), t.Text):
		return "NAME"
	case t.Kind == lex.Name || t.Kind == lex.Sign:
		return t.Text
	}
	return "?"
}

// item is a rule, of which so many parts were met, from a token on.
type item struct {
	name      string
	rule, dot int
	from      int
}

// chart is which rules may be under way, token by token.
type chart struct {
	rules map[string][][]string
	rows  [][]item
	has   []map[item]bool
}

// add: an item more in a row.
func (c *chart) add(row int, x item) {
	if !c.has[row][x] {
		c.has[row][x] = true
		c.rows[row] = append(c.rows[row], x)
	}
}

// open: a new row.
func (c *chart) open() {
	c.rows, c.has = append(c.rows, nil), append(c.has, map[item]bool{})
}

// wants: what an item asks for next; nothing, if it is whole.
func (c *chart) wants(x item) string {
	if rule := c.rules[x.name][x.rule]; x.dot < len(rule) {
		return rule[x.dot]
	}
	return ""
}

// begin: a row has all rules of a name, from it on.
func (c *chart) begin(row int, name string) {
	for rule := range c.rules[name] {
		c.add(row, item{name: name, rule: rule, from: row})
	}
}

// close: a row has all that follows from what it has.
func (c *chart) close(row int) {
	for size := -1; size != len(c.rows[row]); { // once more, as what is whole without a token may be met ahead of what asks for it
		size = len(c.rows[row])
		for i := 0; i < len(c.rows[row]); i++ {
			x := c.rows[row][i]
			want := c.wants(x)
			if want != "" {
				c.begin(row, want)
				continue
			}
			for j := 0; j < len(c.rows[x.from]); j++ {
				if y := c.rows[x.from][j]; c.wants(y) == x.name {
					y.dot++
					c.add(row, y)
				}
			}
		}
	}
}

// formed: the first of a text's tokens that can't stand where it does; -1: there is none. All that the tokens ahead of one may be is gone through at once.
func formed(list []lex.Token) int {
	c := chart{rules: rules()}
	c.open()
	c.begin(0, "Text")
	for i, t := range list {
		c.close(i)
		if t.Kind == lex.End {
			whole := func(x item) bool { return x.name == "Text" && x.from == 0 && c.wants(x) == "" }
			if slices.ContainsFunc(c.rows[i], whole) {
				return -1
			}
			return i
		}
		c.open()
		for _, x := range c.rows[i] {
			if c.wants(x) == sort(t) {
				x.dot++
				c.add(i+1, x)
			}
		}
		if len(c.rows[i+1]) == 0 {
			return i
		}
	}
	return -1
}
