package fuse

import (
	"math/rand"
	"slices"
	"strconv"
	"strings"
	"testing"

	"mandrel/api"
	"mandrel/graph"
	"mandrel/kept"
	"mandrel/sample"
	"mandrel/spell"
)

// ofOne are the operators of one, as the document lists them.
const ofOne = "Identity Neg Abs Not Relu Sqrt Floor Exp Sigmoid Tanh"

// thenOf is where a node's then stands, or behind all attributes, and its text.
func thenOf(n api.Node) (int, string) {
	for i, a := range n.Attrs {
		if a.Name == "then" {
			return i, a.S
		}
	}
	return len(n.Attrs), ""
}

// joined are texts with commas between; empty ones are left out.
func joined(texts ...string) string {
	return strings.Join(slices.DeleteFunc(texts, func(s string) bool { return s == "" }), ",")
}

// ahead is the node into which the one at j goes, if texts were of any length; below 0, if there is none.
func ahead(g api.Graph, j int) int {
	b := g.Nodes[j]
	if !slices.Contains(strings.Fields(ofOne), b.Op) || slices.ContainsFunc(g.Out, func(v api.Value) bool { return v.Name == b.In[0] }) {
		return -1
	}
	if !slices.Equal(graph.Readers(g, b.In[0]), []int{j}) {
		return -1
	}
	return slices.IndexFunc(g.Nodes, func(n api.Node) bool { return n.Out == b.In[0] })
}

// textBehind is that of the node at i with the one at j in it.
func textBehind(g api.Graph, i, j int) string {
	_, first := thenOf(g.Nodes[i])
	_, last := thenOf(g.Nodes[j])
	return joined(first, g.Nodes[j].Op, last)
}

// fuseByHand is the document's definition: as long as there is one, the first node goes into the one ahead.
func fuseByHand(g api.Graph) api.Graph {
	h := kept.InOrder(g)
	for j := 0; j < len(h.Nodes); j++ {
		i := ahead(h, j)
		if i < 0 || len(textBehind(h, i, j)) > 100 {
			continue
		}
		a := h.Nodes[i]
		at, _ := thenOf(a)
		a.Out = h.Nodes[j].Out
		a.Attrs = slices.Clone(a.Attrs)
		if at == len(a.Attrs) {
			a.Attrs = append(a.Attrs, api.Attr{Name: "then", Kind: api.AttrString})
		}
		a.Attrs[at].S = textBehind(h, i, j)
		h.Nodes[i] = a
		h.Nodes = slices.Delete(h.Nodes, j, j+1)
		j = -1
	}
	return h
}

// wordy gives some nodes, of types that may have it, more to follow, so that texts grow long.
func wordy(r *rand.Rand, g api.Graph) api.Graph {
	g.Name = "graph"
	for i := range g.Nodes {
		n := &g.Nodes[i]
		n.Name = "node " + strconv.Itoa(i)
		at, text := thenOf(*n)
		if at < len(n.Attrs) && r.Intn(2) == 0 {
			n.Attrs[at].S = joined(text, strings.TrimSuffix(strings.Repeat("Identity,", 1+r.Intn(8)), ","))
		}
	}
	return g
}

// tally counts what Fuse meets: of what comes out, what could not go for its length alone, and how long texts are.
func tally(c map[string]int, g, h api.Graph) {
	c["gone"] += len(g.Nodes) - len(h.Nodes)
	for j, n := range h.Nodes {
		if i := ahead(h, j); i >= 0 {
			c["too long"]++
			if len(textBehind(h, i, j)) <= api.MaxName {
				c["left"]++
			}
		}
		at, text := thenOf(n)
		if len(text) > api.MaxName-4 && len(text) <= api.MaxName {
			c["no room for more"]++
		}
		if at < len(n.Attrs)-1 {
			c["then is not the last"]++
		}
		if len(strings.Split(text, ",")) > 10 {
			c["many"]++
		}
	}
}

func TestAgainstTheDefinition(t *testing.T) {
	r := rand.New(rand.NewSource(161))
	c := map[string]int{}
	for i := range 4000 {
		operators := sample.All
		if i%2 == 0 {
			operators = ofOne + " " + ofOne + " Add Mul Clip Constant Div"
		}
		g := wordy(r, sample.Graph(r.Intn, r.Intn(24), operators))
		got, e := Fuse(g)
		if want := fuseByHand(g); e != api.OK || !spell.SameGraphs(got, want) {
			t.Fatalf("P16.1: %v\nis %v, %d\nnot %v", g, got, e, want)
		}
		in := [][]api.Tensor{sample.Inputs(r.Intn, g), sample.Inputs(r.Intn, g), nil}
		if broken := kept.Broken(Fuse, g, in...); len(broken) > 0 {
			t.Fatalf("P16.2: %v breaks %q of %v", g, broken, in)
		}
		tally(c, g, got)
	}
	for _, word := range []string{"gone", "too long", "no room for more", "then is not the last", "many"} {
		if c[word] < 10 {
			t.Errorf("%s: only %d times", word, c[word])
		}
	}
	if c["left"] > 0 {
		t.Errorf("P16.2: %d nodes are left that could go", c["left"])
	}
}
