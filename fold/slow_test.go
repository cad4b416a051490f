package fold

import (
	"math/rand"
	"slices"
	"strconv"
	"strings"
	"testing"

	"mandrel/api"
	"mandrel/infer"
	"mandrel/kept"
	"mandrel/sample"
	"mandrel/sem"
	"mandrel/spell"
)

// tensorsOf are those of initializers by names; false, if a name is none of theirs.
func tensorsOf(inits []api.Named, names []string) ([]api.Tensor, bool) {
	var l []api.Tensor
	for _, name := range names {
		at := slices.IndexFunc(inits, func(w api.Named) bool { return w.Name == name })
		if at < 0 {
			return nil, false
		}
		l = append(l, inits[at].T)
	}
	return l, true
}

// foldByHand is the document's definition: each node in its order goes, if it can be done.
func foldByHand(g api.Graph) api.Graph {
	h := kept.InOrder(g)
	nodes := h.Nodes
	h.Nodes, h.Inits = nil, slices.Clone(h.Inits)
	for _, n := range nodes {
		in, all := tensorsOf(h.Inits, n.In)
		t, e := sem.Do(n, in)
		if all && e == api.OK {
			h.Inits = append(h.Inits, api.Named{Name: n.Out, T: t})
		} else {
			h.Nodes = append(h.Nodes, n)
		}
	}
	return h
}

// typeOf is a value's type.
func typeOf(g api.Graph, name string) int {
	values, _ := infer.All(g)
	at := slices.IndexFunc(values, func(v api.Value) bool { return v.Name == name })
	return values[at].Type
}

func isOutput(g api.Graph, name string) bool {
	return slices.ContainsFunc(g.Out, func(v api.Value) bool { return v.Name == name })
}

func isRead(nodes []api.Node, name string) bool {
	return slices.ContainsFunc(nodes, func(n api.Node) bool { return slices.Contains(n.In, name) })
}

// deadByHand is the document's definition: nodes come to stay until no more of them do.
func deadByHand(g api.Graph) api.Graph {
	h := kept.InOrder(g)
	var stay, rest []api.Node
	for _, n := range h.Nodes {
		if n.Op == "Gather" || n.Op == "Div" && typeOf(g, n.In[1]) != api.Float || isOutput(g, n.Out) {
			stay = append(stay, n)
		} else {
			rest = append(rest, n)
		}
	}
	for more := true; more; {
		at := slices.IndexFunc(rest, func(n api.Node) bool { return isRead(stay, n.Out) })
		if more = at >= 0; more {
			stay = append(stay, rest[at])
			rest = slices.Delete(rest, at, at+1)
		}
	}
	gone := func(n api.Node) bool {
		return !slices.ContainsFunc(stay, func(m api.Node) bool { return m.Out == n.Out })
	}
	h.Nodes = slices.DeleteFunc(h.Nodes, gone)
	h.Inits = slices.DeleteFunc(slices.Clone(h.Inits), func(w api.Named) bool { return !isOutput(g, w.Name) && !isRead(stay, w.Name) })
	return h
}

// named gives the graph and its nodes names, which are no values'.
func named(g api.Graph) api.Graph {
	g.Name = "graph"
	for i := range g.Nodes {
		g.Nodes[i].Name = "node " + strconv.Itoa(i)
	}
	return g
}

// tally counts what passes meet.
type tally map[string]int

func (c tally) fold(g, h api.Graph) {
	for i, n := range h.Nodes {
		if _, all := tensorsOf(h.Inits, n.In); all {
			c[n.Op+" errs"]++
			if isRead(h.Nodes[i+1:], n.Out) {
				c["an error's reader"]++
			}
		}
	}
	for _, w := range h.Inits[len(g.Inits):] {
		c["folded"]++
		if isOutput(g, w.Name) {
			c["an output"]++
		}
	}
	for _, n := range g.Nodes {
		_, own := tensorsOf(g.Inits, n.In)
		if _, all := tensorsOf(h.Inits, n.In); all && !own {
			c["of folded ones"]++
		}
		if n.Op == "Constant" {
			c["Constant"]++
		}
	}
}

func (c tally) dead(g, h api.Graph) {
	c["gone"] += len(g.Nodes) - len(h.Nodes)
	c["initializers gone"] += len(g.Inits) - len(h.Inits)
	for _, n := range h.Nodes {
		if !isRead(h.Nodes, n.Out) && !isOutput(h, n.Out) {
			c[n.Op+strconv.Itoa(typeOf(h, n.Out))+" stays"]++
		}
	}
	for _, w := range h.Inits {
		if isOutput(g, w.Name) && !isRead(h.Nodes, w.Name) {
			c["an output stays"]++
		}
	}
}

func (c tally) expect(t *testing.T, many int, words string) {
	t.Helper()
	for _, word := range strings.Split(words, ", ") {
		if c[word] < many {
			t.Errorf("%s: only %d times", word, c[word])
		}
	}
}

func TestAgainstTheDefinition(t *testing.T) {
	r := rand.New(rand.NewSource(151))
	c := tally{}
	errors := map[api.Errno]int{}
	for i := range 3000 {
		operators := sample.All
		if i%2 == 0 {
			operators = "Div Gather Gather Add Neg Cast Constant Identity"
		}
		g := named(sample.Graph(r.Intn, r.Intn(14), operators))
		in := [][]api.Tensor{sample.Inputs(r.Intn, g), sample.Inputs(r.Intn, g), nil}
		f, e := Fold(g)
		if want := foldByHand(g); e != api.OK || !spell.SameGraphs(f, want) {
			t.Fatalf("P15.1: %v\nis %v, %d\nnot %v", g, f, e, want)
		}
		d, e := Dead(g)
		if want := deadByHand(g); e != api.OK || !spell.SameGraphs(d, want) {
			t.Fatalf("P15.2: %v\nis %v, %d\nnot %v", g, d, e, want)
		}
		both := func(g api.Graph) (api.Graph, api.Errno) {
			h, _ := Fold(g)
			return Dead(h)
		}
		for name, pass := range map[string]kept.Pass{"Fold": Fold, "Dead": Dead, "Fold and Dead": both} {
			if broken := kept.Broken(pass, g, in...); len(broken) > 0 {
				t.Fatalf("P15.3: %s of %v breaks %q of %v", name, g, broken, in)
			}
		}
		_, e = sem.Eval(g, in[0])
		errors[e]++
		c.fold(g, f)
		c.dead(g, d)
	}
	c.expect(t, 10, "folded, an output, of folded ones, Constant, Div errs, Gather errs, an error's reader")
	c.expect(t, 20, "gone, initializers gone, an output stays, Div6 stays, Div7 stays, Gather1 stays, Gather7 stays")
	if c["Div1 stays"] > 0 || errors[api.ErrDivide] < 50 || errors[api.ErrIndex] < 50 {
		t.Errorf("%v, errors of runs: %v", c, errors)
	}
}
