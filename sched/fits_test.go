package sched

import (
	"math"
	"math/rand"
	"slices"
	"strconv"
	"strings"
	"testing"

	"mandrel/api"
	"mandrel/arena"
	"mandrel/fit"
	"mandrel/kept"
	"mandrel/sample"
	"mandrel/spell"
)

// Graphs whose layouts are broken in one thing each; their values take 8 bytes each, but for the last one's.
const (
	chain = "in x i 2\na = Neg(x)\nb = Add(a, a)\nc = Neg(b)\nout c i 2\n"
	fork  = "in x i 2\na = Neg(x)\nb = Neg(a)\nc = Neg(a)\nd = Add(b, c)\nout d i 2\n"
	line  = "in x i 2\na = Neg(x)\nb = Neg(a)\nc = Neg(b)\nout c i 2\n"
	mixed = "in x b 5\nd = Equal(c, c)\nc = Flatten(b)\nb = Cast(a); to=7\na = Not(x)\nout d b 5 1\n"
)

func TestFits(t *testing.T) {
	for _, c := range []struct {
		graph, layout string
		want          bool
	}{
		{"in x i\nout x i", "0 | |", true},
		{"in x i\nout x i", "8 | |", false},
		{"in x i\nout x i", "0 | x 0 4 |", false},
		{"in x i\nout x i", "0 | | x x", false},
		{"in x i\nout x i", "4 | |", false},
		{chain, "24 | a 0 8, b 8 8, c 16 8 |", true},
		{chain, "24 | a 16 8, b 8 8, c 0 8 |", true},
		{chain, "24 | a 0 8, b 8 8, c 0 8 |", true},
		{chain, "16 | a 0 8, b 8 8, c 0 8 |", true},
		{chain, "16 | a 0 8, b 8 8, c 8 8 | c b", true},
		// Condition 1: a place for each node, in their order, by its name, its length, its beginning and its end.
		{chain, "24 | |", false},
		{chain, "24 | a 0 8, b 8 8 |", false},
		{chain, "24 | a 0 8, b 8 8, c 16 8, c 16 8 |", false},
		{chain, "24 | b 8 8, a 0 8, c 16 8 |", false},
		{chain, "24 | a 0 8, b 8 8, d 16 8 |", false},
		{chain, "24 | a 0 8, b 8 8, b 16 8 |", false},
		{chain, "24 | x 0 8, b 8 8, c 16 8 |", false},
		{chain, "24 | a 0 8, b 8 8, c 16 7 |", false},
		{chain, "24 | a 0 8, b 8 8, c 16 0 |", false},
		{chain, "24 | a 0 8, b 8 8, c 16 9 |", false},
		{chain, "24 | a 0 16, b 16 8, c 0 8 |", false},
		{chain, "24 | a 0 8, b 8 8, c 16 -8 |", false},
		{chain, "24 | a 0 8, b 12 8, c 0 8 |", false},
		{chain, "24 | a 1 8, b 16 8, c 1 8 |", false},
		{chain, "24 | a -8 8, b 8 8, c 16 8 |", false},
		{chain, "24 | a 0 8, b 8 8, c 24 8 |", false},
		{chain, "16 | a 0 8, b 8 8, c 16 8 |", false},
		{chain, "24 | a 0 8, b 8 8, c 9223372036854775800 8 |", false},
		{chain, "24 | a 0 8, b 8 8, c -9223372036854775808 8 |", false},
		{chain, "24 | a 0 8, b 8 9223372036854775807, c 16 8 |", false},
		// Condition 2: the size.
		{chain, "32 | a 0 8, b 8 8, c 16 8 |", false},
		{chain, "28 | a 0 8, b 8 8, c 16 8 |", false},
		{chain, "20 | a 0 8, b 8 8, c 0 8 |", false},
		{chain, "12 | a 0 8, b 0 8, c 0 8 |", false},
		{chain, "0 | a 0 8, b 8 8, c 16 8 |", false},
		{chain, "-24 | a 0 8, b 8 8, c 16 8 |", false},
		{chain, "-9223372036854775808 | a 0 8, b 8 8, c 16 8 |", false},
		{chain, "9223372036854775800 | a 0 8, b 8 8, c 16 8 |", false},
		// Condition 3: pairs.
		{chain, "16 | a 0 8, b 8 8, c 8 8 | c b, c b", false},
		{chain, "16 | a 0 8, b 8 8, c 8 8 | c a", false},
		{chain, "16 | a 0 8, b 8 8, c 8 8 | b c", false},
		{chain, "16 | a 0 8, b 8 8, c 8 8 | c c", false},
		{chain, "16 | a 0 8, b 8 8, c 8 8 | c b, a x", false},
		{chain, "16 | a 0 8, b 8 8, c 8 8 | c b, z y", false},
		{chain, "16 | a 0 8, b 8 8, c 8 8 | c b, c z", false},
		{chain, "16 | a 0 8, b 8 8, c 8 8 | c b, z a", false},
		{chain, "24 | a 0 8, b 8 8, c 16 8 | c b", false},
		{chain, "16 | a 0 8, b 8 8, c 0 8 | c a", false},
		{chain, "8 | a 0 8, b 0 8, c 0 8 | b a, c b", false},
		{chain + "out b i 2", "16 | a 0 8, b 8 8, c 8 8 | c b", false},
		{chain + "out b i 2", "16 | a 0 8, b 8 8, c 0 8 |", true},
		{line, "8 | a 0 8, b 0 8, c 0 8 | b a, c b", true},
		{line, "8 | a 0 8, b 0 8, c 0 8 | c b, b a", true},
		{line, "16 | a 0 8, b 8 8, c 8 8 | c b", true},
		{line, "16 | a 0 8, b 0 8, c 8 8 | b a", true},
		{line, "16 | a 0 8, b 0 8, c 0 8 | b a, c b", true},
		{line, "16 | a 0 8, b 0 8, c 8 8 | b x", false},
		{line, "16 | a 0 8, b 0 8, c 8 8 | b z", false},
		{line, "16 | a 0 8, b 0 8, c 8 8 | z a", false},
		{line, "16 | a 0 8, b 8 8, c 8 8 | c b, b z", false},
		{line, "8 | a 0 8, b 0 8, c 0 8 | b a, c a", false},
		{line, "8 | a 0 8, b 0 8, c 0 8 | b a", false},
		{line, "8 | a 0 8, b 0 8, c 0 8 | c b", false},
		{fork, "24 | a 0 8, b 8 8, c 16 8, d 0 8 |", true},
		{fork, "32 | a 0 8, b 8 8, c 16 8, d 24 8 |", true},
		{fork, "24 | a 0 8, b 0 8, c 8 8, d 16 8 | b a", false},
		{fork, "24 | a 0 8, b 8 8, c 0 8, d 16 8 | c a", false},
		{fork, "24 | a 0 8, b 0 8, c 0 8, d 16 8 | b a, c a", false},
		{fork, "24 | a 0 8, b 8 8, c 16 8, d 8 8 | d b", false},
		// Condition 4: values that meet.
		{chain, "16 | a 0 8, b 0 8, c 8 8 |", false},
		{chain, "16 | a 0 8, b 8 8, c 8 8 |", false},
		{chain, "8 | a 0 8, b 0 8, c 0 8 |", false},
		{chain + "out a i 2", "16 | a 0 8, b 8 8, c 0 8 |", false},
		{fork, "24 | a 0 8, b 8 8, c 8 8, d 16 8 |", false},
		{fork, "24 | a 0 8, b 8 8, c 16 8, d 16 8 |", false},
		// Lengths that are no multiples of 8, and another order than that of work.
		{mixed, "96 | a 0 5, b 8 40, c 48 40, d 88 5 |", true},
		{mixed, "56 | a 0 5, b 8 40, c 8 40, d 48 5 | c b", true},
		{mixed, "48 | a 40 5, b 0 40, c 0 40, d 40 5 | c b", true},
		{mixed, "48 | a 40 5, b 0 40, c 0 40, d 32 5 | c b", false},
		{mixed, "56 | a 0 5, b 8 40, c 8 40, d 0 5 | c b", true},
		{mixed, "104 | a 0 5, b 8 40, c 48 40, d 88 5 |", false},
		{mixed, "88 | a 0 5, b 8 40, c 48 40, d 88 5 |", false},
		{mixed, "96 | a 0 5, b 0 40, c 48 40, d 88 5 |", false},
		{mixed, "96 | a 40 5, b 8 40, c 48 40, d 88 5 |", false},
		{mixed, "96 | d 88 5, c 48 40, b 8 40, a 0 5 |", false},
	} {
		g, l := spell.Graph(c.graph), spell.Layout(c.layout)
		broken := fit.Broken(g, l)
		if ok := Fits(g, l); ok != c.want || ok != (len(broken) == 0) {
			t.Errorf("P22.2: %s%s: %t, by the words %q", c.graph, c.layout, ok, broken)
		}
	}
	// By its words, a layout without places fits whatever it has less than no bytes.
	if !Fits(spell.Graph("in x i\nout x i"), api.Layout{Size: -8}) || Fits(spell.Graph("in x i\nout x i"), api.Layout{Size: -4}) {
		t.Errorf("P22.2: less than no bytes")
	}
}

func TestFitsOfGraphsThatMayNotBe(t *testing.T) {
	for _, g := range kept.Wrong() {
		for _, l := range []api.Layout{{}, spell.Layout("0 | |"), spell.Layout("8 | z 0 4 |"), spell.Layout("16 | z 0 4, y 8 4 |")} {
			if Fits(g, l) {
				t.Errorf("P22.2: %v: %v fits it", g, l)
			}
		}
	}
}

// paired is a layout with one pair more, of a node and what it reads; they lie in one place, or not.
func paired(r *rand.Rand, g api.Graph, l api.Layout) api.Layout {
	n := fit.Nodes(g)[r.Intn(len(l.Places))]
	young := slices.IndexFunc(l.Places, func(p api.Place) bool { return p.Name == n.Out })
	old := slices.IndexFunc(l.Places, func(p api.Place) bool { return slices.Contains(n.In, p.Name) })
	if young < 0 || old < 0 {
		return l
	}
	l.Pairs = append(l.Pairs, api.Pair{New: n.Out, Old: l.Places[old].Name})
	if r.Intn(4) > 0 {
		l.Places[young].At = l.Places[old].At
	}
	return l
}

// changed is a layout with something changed.
func changed(r *rand.Rand, g api.Graph, l api.Layout) api.Layout {
	l.Places, l.Pairs = slices.Clone(l.Places), slices.Clone(l.Pairs)
	number := []int{0, 8, -8, 4, 16, 24, 40, -16, math.MaxInt - 7, math.MinInt}[r.Intn(10)]
	what := r.Intn(12)
	if len(l.Places) == 0 || what == 0 {
		l.Size += number
		return l
	}
	p, q := &l.Places[r.Intn(len(l.Places))], l.Places[r.Intn(len(l.Places))]
	switch what {
	case 1:
		l.Size = number
	case 2, 3:
		p.At = number
	case 4:
		p.At = q.At
	case 5:
		p.Len += number
	case 6:
		p.Name = q.Name
	case 7:
		l.Pairs = append(l.Pairs, api.Pair{New: p.Name, Old: q.Name})
	case 8:
		l.Pairs = slices.Delete(l.Pairs, 0, min(1, len(l.Pairs)))
	default:
		return paired(r, g, l)
	}
	return l
}

// Whatever is changed of a layout, it fits just if it does by the document's words.
func TestFitsAgainstTheWords(t *testing.T) {
	r := rand.New(rand.NewSource(22))
	met := map[string]int{}
	for range 6000 {
		g := sample.Graph(r.Intn, r.Intn(8), "Neg Abs Add Not Equal Reshape Flatten Cast Transpose")
		l := fit.Some(r.Intn, g)
		if r.Intn(3) == 0 {
			l, _ = arena.Plan(g)
		}
		for range r.Intn(3) {
			l = changed(r, g, l)
		}
		broken := fit.Broken(g, l)
		if Fits(g, l) != (len(broken) == 0) {
			t.Fatalf("P22.2: %v: %v: %t, by the words %q", g, l, Fits(g, l), broken)
		}
		if len(broken) < 2 {
			met[strings.Join(broken, " ")]++
		}
	}
	for _, word := range strings.Split(",name,len,at,room,size,sum,pair,in place,same at,output,reader,twice,meet", ",") {
		if met[word] < 5 {
			t.Errorf("%q: met: %v", word, met)
		}
	}
}

// As many nodes as may be: no two meet, all meet, or the last one meets the first one.
func TestFitsOfGreatGraphs(t *testing.T) {
	for _, op := range []string{"Neg", "Abs"} {
		g := spell.Graph("in v0 i 2\nout v1000 i 2")
		for i := api.MaxNodes; i > 0; i-- {
			g.Nodes = append(g.Nodes, spell.Node("v"+strconv.Itoa(i)+" = "+op+"(v"+strconv.Itoa(i-1)+")"))
		}
		l, _ := arena.Plan(g)
		if !Fits(g, l) || len(l.Pairs) != 999 || l.Size != 8 {
			t.Errorf("P22.2: %d nodes: %d pairs, %d bytes do not fit", api.MaxNodes, len(l.Pairs), l.Size)
		}
		l.Pairs = l.Pairs[:998]
		if Fits(g, l) {
			t.Errorf("P22.2: the last pair is missing, and it fits")
		}
		wide := fit.Wide(g)
		if !Fits(g, wide) || wide.Size != 8000 {
			t.Errorf("P22.2: one behind the other: %d bytes do not fit", wide.Size)
		}
		wide.Places[999].At = 0
		g.Out = append(g.Out, spell.Value("v1 i 2"))
		if Fits(g, wide) {
			t.Errorf("P22.2: two outputs lie in one place, and it fits")
		}
	}
}
