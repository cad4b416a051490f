package fit

import (
	"reflect"
	"strings"
	"testing"

	"mandrel/api"
	"mandrel/spell"
)

// bits are rows of a text such as `011 001 000`.
func bits(text string) [][]bool {
	rows := [][]bool{}
	for _, word := range strings.Fields(text) {
		var row []bool
		for _, r := range word {
			row = append(row, r == '1')
		}
		rows = append(rows, row)
	}
	return rows
}

func TestBeforeAndApart(t *testing.T) {
	for _, c := range []struct{ text, before, apart string }{
		{"out x i", "", ""},
		{"a = Neg(x)\nout a i", "0", "0"},
		{"a = Neg(x)\nb = Neg(a)\nc = Neg(b)\nout c i", "011 001 000", "001 000 100"},
		{"c = Neg(b)\nb = Neg(a)\na = Neg(x)\nout c i", "011 001 000", "001 000 100"},
		{"a = Neg(x)\nb = Neg(a)\nc = Neg(b)\nout c i\nout a i", "011 001 000", "000 000 000"},
		{"a = Neg(x)\nb = Neg(a)\nc = Neg(b)\nd = Neg(a)\nout c i", "0111 0010 0000 0000", "0000 0000 0000 0000"},
		{"a = Neg(x)\nb = Neg(a)\nc = Neg(a)\nd = Add(b, c)\nout d i", "0111 0001 0001 0000", "0001 0000 0000 1000"},
	} {
		g := spell.Graph("in x i\n" + c.text)
		if got := Before(g); !reflect.DeepEqual(got, bits(c.before)) {
			t.Errorf("%s: %v are before, not %s", c.text, got, c.before)
		}
		if got := Apart(g); !reflect.DeepEqual(got, bits(c.apart)) {
			t.Errorf("%s: %v are apart, not %s", c.text, got, c.apart)
		}
	}
}

func TestWidth(t *testing.T) {
	for text, want := range map[string]int{"x f 2 3": 24, "x i": 4, "x l 5": 40, "x b 5": 5} {
		if got := Width(spell.Value(text)); got != want {
			t.Errorf("%s: %d", text, got)
		}
	}
	for length, want := range map[int]int{0: 0, 1: 8, 7: 8, 8: 8, 9: 16, 17: 24} {
		if got := Rounded(length); got != want {
			t.Errorf("%d: %d", length, got)
		}
	}
}

func TestWide(t *testing.T) {
	for text, want := range map[string]string{
		"in x i\nout x i": "0 | |",
		"in x b 3\nz = Less(y, y)\ny = Cast(x); to=6\nw = Not(x)\nout z b 3": "32 | y 0 12, z 16 3, w 24 3 |",
	} {
		g := spell.Graph(text)
		if got := Wide(g); !reflect.DeepEqual(got, spell.Layout(want)) || len(Broken(g, got)) > 0 {
			t.Errorf("%s: %v, not %s", text, got, want)
		}
	}
}

// A layout that breaks one thing is told of, by that thing's word.
func TestBroken(t *testing.T) {
	const chain = "in x i 2\na = Neg(x)\nb = Add(a, a)\nc = Neg(b)\nout c i 2\n"
	const fork = "in x i 2\na = Neg(x)\nb = Neg(a)\nc = Neg(a)\nd = Add(b, c)\nout d i 2\n"
	const cast = "in x l\na = Neg(x)\nb = Cast(a); to=6\nc = Cast(a); to=7\nout b i\nout c l\n"
	for _, c := range []struct{ text, layout, want string }{
		{"in x i\nout x i", "0||", ""},
		{"in x i\nout x i", "8||", "sum"},
		{chain, "16 | a 0 8, b 8 8, c 8 8 | c b", ""},
		{chain, "16 | a 0 8, b 8 8, c 0 8 |", ""},
		{chain, "24 | a 0 8, b 8 8, c 16 8 |", ""},
		{chain, "24 | c 16 8, b 8 8, a 0 8 |", "name"},
		{chain, "16 | a 0 8, b 8 8 |", "number"},
		{chain, "0 | |", "number"},
		{chain, "24 | a 0 8, b 8 8, c 16 8, d 0 8 |", "number"},
		{chain, "24 | a 0 8, b 8 8, c 16 7 |", "len"},
		{chain, "24 | a 0 8, b 8 8, d 16 8 |", "name"},
		{chain, "24 | a -8 8, b 8 8, c 16 8 |", "at"},
		{chain, "24 | a 0 8, b 12 8, c 0 8 |", "at"},
		{chain, "16 | a 0 8, b 8 8, c 16 8 |", "room"},
		{chain, "23 | a 0 8, b 8 8, c 0 8 |", "size"},
		{chain, "32 | a 0 8, b 8 8, c 16 8 |", "sum"},
		{chain, "16 | a 0 8, b 0 8, c 8 8 |", "meet"},
		{chain, "16 | a 0 8, b 8 8, c 8 8 |", "meet"},
		{chain, "24 | a 0 8, b 8 8, c 16 8 | c b", "same at"},
		{chain, "8 | a 0 8, b 0 8, c 0 8 | c b, b a", "in place"},
		{chain, "16 | a 0 8, b 8 8, c 0 8 | c a", "in place"},
		{chain, "16 | a 0 8, b 8 8, c 8 8 | c b, c b", "twice"},
		{chain, "16 | a 0 8, b 8 8, c 8 8 | b c", "in place output"},
		{chain, "16 | a 0 8, b 8 8, c 0 8 | a x", "pair"},
		{chain, "16 | a 0 8, b 8 8, c 0 8 | d c", "pair"},
		{chain, "16 | a 0 8, b 8 8, c 0 8 | c c", "pair"},
		{chain + "out b i 2", "16 | a 0 8, b 8 8, c 8 8 | c b", "output"},
		{chain + "out b i 2", "16 | a 0 8, b 8 8, c 0 8 | ", ""},
		{fork, "24 | a 0 8, b 8 8, c 16 8, d 0 8 |", ""},
		{fork, "24 | a 0 8, b 0 8, c 8 8, d 16 8 | b a", "reader"},
		{fork, "24 | a 0 8, b 8 8, c 0 8, d 16 8 | c a", "reader"},
		{fork, "24 | a 0 8, b 0 8, c 0 8, d 16 8 | b a, c a", "reader twice meet"},
		{cast, "16 | a 0 8, b 8 4, c 0 8 | c a", "in place reader"},
		{cast, "16 | a 0 8, b 0 4, c 8 8 | b a", "in place like reader"},
		{cast, "24 | a 0 8, b 8 4, c 16 8 |", ""},
		{cast, "24 | a 9223372036854775800 8, b 8 4, c 16 8 |", "room"},
		// Nodes that stand in another order than that of work.
		{"in x b\na = Neg(y)\ny = Cast(x); to=6\nb = Not(x)\nout a i\nout b b", "16 | y 0 4, a 0 4, b 8 1 | a y", ""},
	} {
		g := spell.Graph(c.text)
		if got := strings.Join(Broken(g, spell.Layout(c.layout)), " "); got != c.want {
			t.Errorf("%s\n%s: %q, not %q", c.text, c.layout, got, c.want)
		}
	}
	if got := Broken(spell.Graph(chain), api.Layout{Size: 24}); len(got) == 0 {
		t.Errorf("no places: %q", got)
	}
}
