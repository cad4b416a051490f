package layout

import (
	"math/rand"
	"slices"
	"strconv"
	"strings"
	"testing"

	"mandrel/api"
	"mandrel/graph"
	"mandrel/infer"
	"mandrel/kept"
	"mandrel/sample"
	"mandrel/spell"
)

// tally counts what the rules meet.
type tally map[string]int

// byHand is a graph on its way, with its values as infer has them.
type byHand struct {
	g      api.Graph
	values []api.Value
	seen   tally
}

func (b *byHand) dims(name string) []int {
	return b.values[slices.IndexFunc(b.values, func(v api.Value) bool { return v.Name == name })].Dims
}

func (b *byHand) isOutput(name string) bool {
	return slices.ContainsFunc(b.g.Out, func(v api.Value) bool { return v.Name == name })
}

// find is an attribute, or an empty one.
func find(n api.Node, name string) (api.Attr, bool) {
	for _, a := range n.Attrs {
		if a.Name == name {
			return a, true
		}
	}
	return api.Attr{}, false
}

func hasThen(n api.Node) bool {
	_, has := find(n, "then")
	return has
}

// order is that of a turn, as chapter 8 has it.
func (b *byHand) order(n api.Node) []int {
	var l []int
	perm, has := find(n, "perm")
	for i := range b.dims(n.In[0]) {
		if has {
			l = append(l, int(perm.Ints[i]))
		} else {
			l = slices.Insert(l, 0, i)
		}
	}
	return l
}

func (b *byHand) nothing(n api.Node) bool {
	if hasThen(n) {
		return false
	}
	switch n.Op {
	case "Identity":
		return true
	case "Transpose":
		for i, p := range b.order(n) {
			if i != p {
				return false
			}
		}
		return true
	case "Reshape", "Squeeze", "Unsqueeze", "Flatten", "Expand":
		return slices.Equal(b.dims(n.Out), b.dims(n.In[0]))
	}
	return false
}

// kindOf is a word for turns, one for reshapings, and none for others.
func kindOf(n api.Node) string {
	switch n.Op {
	case "Transpose":
		return "turn"
	case "Reshape", "Squeeze", "Unsqueeze", "Flatten":
		return "reshaping"
	}
	return ""
}

// pair are a node and the one ahead of it, if both are of one kind.
func (b *byHand) pair(n api.Node) (api.Node, string) {
	for _, m := range b.g.Nodes {
		if len(n.In) == 1 && m.Out == n.In[0] && kindOf(m) == kindOf(n) {
			return m, kindOf(n)
		}
	}
	return api.Node{}, ""
}

// goes takes a node away.
func (b *byHand) goes(i int) {
	n := b.g.Nodes[i]
	b.seen[n.Op+" goes"]++
	if len(b.dims(n.Out)) < 2 {
		b.seen[n.Op+" of a low rank goes"]++
	}
	if many := len(graph.Readers(b.g, n.Out)); many > 1 {
		b.seen["read by several"]++
	} else if many == 0 {
		b.seen["unread"]++
	}
	if _, kind := b.pair(n); kind != "" {
		b.seen["several rules apply"]++
	}
	var nodes []api.Node
	for j, m := range b.g.Nodes {
		m.In = slices.Clone(m.In)
		for k := range m.In {
			if m.In[k] == n.Out {
				m.In[k] = n.In[0]
			}
		}
		if j != i {
			nodes = append(nodes, m)
		}
	}
	b.g.Nodes = nodes
}

// joins makes a node of the input of the one ahead.
func (b *byHand) joins(i int, m api.Node, kind string) {
	n := b.g.Nodes[i]
	b.seen[m.Op+" "+n.Op]++
	if b.isOutput(m.Out) {
		b.seen[kind+" of an output"]++
	}
	if len(graph.Readers(b.g, m.Out)) > 1 {
		b.seen[kind+" of what others read"]++
	}
	a := api.Attr{Name: "perm", Kind: api.AttrInts}
	if kind == "turn" {
		for _, p := range b.order(n) {
			a.Ints = append(a.Ints, int64(b.order(m)[p]))
		}
	} else {
		a.Name = "shape"
		for _, d := range b.dims(n.Out) {
			a.Ints = append(a.Ints, int64(d))
		}
	}
	if len(a.Ints) == 0 {
		b.seen[kind+" of no dims"]++
	}
	next := api.Node{Op: map[string]string{"turn": "Transpose", "reshaping": "Reshape"}[kind], Name: n.Name, In: m.In, Out: n.Out, Attrs: []api.Attr{a}}
	if then, has := find(n, "then"); has {
		b.seen[kind+" with a then"]++
		next.Attrs = append(next.Attrs, then)
	}
	b.g.Nodes = slices.Clone(b.g.Nodes)
	b.g.Nodes[i] = next
}

// step does what the document says of the first node to which a rule applies; false, if there is none.
func (b *byHand) step() bool {
	b.values, _ = infer.All(b.g)
	for i, n := range b.g.Nodes {
		if b.nothing(n) && !b.isOutput(n.Out) {
			b.goes(i)
			return true
		}
		if m, kind := b.pair(n); kind != "" && !hasThen(m) {
			b.joins(i, m, kind)
			return true
		}
	}
	return false
}

// stay counts what comes out as it is.
func (b *byHand) stay() {
	for _, n := range b.g.Nodes {
		if b.nothing(n) {
			b.seen[n.Op+" is an output"]++
		}
		then, has := find(n, "then")
		n.Attrs = slices.DeleteFunc(slices.Clone(n.Attrs), func(a api.Attr) bool { return a.Name == then.Name })
		if has && b.nothing(n) {
			b.seen[n.Op+" has a then"]++
		}
		if _, kind := b.pair(n); kind != "" {
			b.seen[kind+" behind a then"]++
		}
	}
}

// plainByHand is the document's definition.
func plainByHand(g api.Graph, seen tally) api.Graph {
	b := &byHand{g: kept.InOrder(g), seen: seen}
	for b.step() {
	}
	b.stay()
	return b.g
}

// named gives the graph and its nodes names, which are no values'.
func named(g api.Graph) api.Graph {
	g.Name = "graph"
	for i := range g.Nodes {
		g.Nodes[i].Name = "node " + strconv.Itoa(i)
	}
	return g
}

const moves = "Identity Transpose Transpose Transpose Reshape Squeeze Unsqueeze Flatten Expand"

func TestAgainstTheDefinition(t *testing.T) {
	r := rand.New(rand.NewSource(171))
	c := tally{}
	for i := range 4000 {
		operators := []string{sample.All, moves, moves + " Add Neg Constant", moves + " Gather Div Cast Concat"}[i%4]
		g := named(sample.Graph(r.Intn, r.Intn(20), operators))
		got, e := Plain(g)
		if want := plainByHand(g, c); e != api.OK || !spell.SameGraphs(got, want) {
			t.Fatalf("P17.1: %v\nis %v, %d\nnot %v", g, got, e, want)
		}
		in := [][]api.Tensor{sample.Inputs(r.Intn, g), sample.Inputs(r.Intn, g), nil}
		if broken := kept.Broken(Plain, g, in...); len(broken) > 0 {
			t.Fatalf("P17.2: %v breaks %q of %v", g, broken, in)
		}
	}
	words := []string{"read by several", "unread", "several rules apply", "Transpose Transpose", "Transpose of a low rank goes"}
	for _, op := range []string{"Identity", "Transpose", "Reshape", "Squeeze", "Unsqueeze", "Flatten", "Expand"} {
		words = append(words, op+" goes", op+" is an output", op+" has a then")
	}
	for _, m := range strings.Fields("Reshape Squeeze Unsqueeze Flatten") {
		for _, n := range strings.Fields("Reshape Squeeze Unsqueeze Flatten") {
			words = append(words, m+" "+n)
		}
	}
	for _, kind := range []string{"turn", "reshaping"} {
		words = append(words, kind+" of an output", kind+" of what others read", kind+" with a then", kind+" behind a then")
	}
	for _, word := range append(words, "reshaping of no dims") {
		if c[word] < 10 {
			t.Errorf("%s: only %d times", word, c[word])
		}
	}
}
