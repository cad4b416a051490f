package told

import (
	"math/rand"
	"strings"
	"testing"

	"mandrel/api"
	"mandrel/pb"
	"mandrel/sample"
	"mandrel/spell"
)

// Whatever the form, a file is the graph; and no two forms of one are alike, but for very small ones.
func TestFile(t *testing.T) {
	r := rand.New(rand.NewSource(51))
	alike, kinds := 0, map[int]int{}
	for i := range 1500 {
		g := sample.Graph(r.Intn, r.Intn(8), sample.All)
		if i%2 == 0 {
			g.Name = "graph"
			for j := range g.Nodes {
				g.Nodes[j].Name = "node"
			}
		}
		for _, n := range g.Nodes {
			for _, a := range n.Attrs {
				kinds[a.Kind]++
			}
		}
		s, other := File(r.Intn, g), File(r.Intn, g)
		if s == other {
			alike++
		}
		for _, s := range []string{s, other} {
			if h, e := pb.Decode(s); e != api.OK || !spell.SameGraphs(g, h) {
				t.Fatalf("%v: %x is %v, %d", g, s, h, e)
			}
		}
	}
	if alike > 50 {
		t.Errorf("%d graphs are told twice in one form", alike)
	}
	for _, kind := range []int{api.AttrFloat, api.AttrInt, api.AttrString, api.AttrTensor, api.AttrInts} {
		if kinds[kind] < 50 {
			t.Errorf("kinds of attributes: %v", kinds)
		}
	}
}

// With the last number picked each time, a file has nothing beside what it must have.
func TestPlainFile(t *testing.T) {
	last := func(n int) int { return n - 1 }
	g := spell.Graph("in x f\nout x f")
	if s := File(last, g); len(s) != 30 {
		t.Errorf("%x", s)
	}
	if h, e := pb.Decode(File(last, g)); e != api.OK || !spell.SameGraphs(g, h) {
		t.Errorf("%v, %d", h, e)
	}
}

func TestSpoilt(t *testing.T) {
	r := rand.New(rand.NewSource(52))
	const s = "abcdefgh"
	shorter, longer, byOne := 0, 0, 0
	for range 2000 {
		x := Spoilt(r.Intn, s)
		switch {
		case len(x) < len(s):
			shorter++
		case len(x) > len(s):
			longer++
		case x != s:
			byOne++
		}
		if len(x) > 2*len(s) {
			t.Errorf("%q", x)
		}
	}
	if shorter < 300 || longer < 200 || byOne < 300 {
		t.Errorf("%d are shorter, %d are longer, %d are others by one byte", shorter, longer, byOne)
	}
	if x := Spoilt(r.Intn, ""); strings.TrimSpace(x) != "" {
		t.Errorf("of no bytes: %q", x)
	}
}

// A graph that may not be told is a file all the same, which is refused.
func TestFileOfWhatMayNotBeTold(t *testing.T) {
	r := rand.New(rand.NewSource(53))
	for _, g := range []api.Graph{
		spell.Graph("in x f 65537\nout x f"),
		spell.Graph("in x f -1\nout x f"),
		spell.Graph("in x 3\nout x f"),
		spell.Graph("init w i 2: 1\nout w i 2"),
		spell.Graph("init w b: 2\nout w b"),
		{Name: strings.Repeat("x", 101)},
		{Nodes: []api.Node{{Op: "Neg", Attrs: []api.Attr{{Kind: 5, F: -1 << 63, I: -1, Ints: []int64{-1}}}}}},
		{Nodes: []api.Node{{Op: "Neg", In: make([]string, 21)}}},
	} {
		for range 20 {
			s := File(r.Intn, g)
			if _, e := pb.Decode(s); e != api.ErrUnsupported && e != api.ErrGraph && e != api.ErrLimit {
				t.Errorf("%v: %x: %d", g, s, e)
			}
		}
	}
}
