package sample

import (
	"math/rand"
	"slices"
	"strings"
	"testing"

	"mandrel/api"
	"mandrel/graph"
	"mandrel/infer"
	"mandrel/pb"
	"mandrel/sem"
)

// tally counts what graphs have.
type tally map[string]int

func (c tally) graph(g api.Graph) {
	order, _ := graph.Order(g)
	if !slices.IsSorted(order) {
		c["in another order"]++
	}
	for _, n := range g.Nodes {
		c[n.Op]++
		for _, a := range n.Attrs {
			c[n.Op+" "+a.Name]++
		}
		if len(graph.Readers(g, n.Out)) == 0 {
			c["unread"]++
		}
		if len(n.In) == 2 && n.In[0] == n.In[1] {
			c["twice"]++
		}
	}
	for _, o := range g.Out {
		if slices.ContainsFunc(g.In, func(v api.Value) bool { return v.Name == o.Name }) {
			c["an input"]++
		}
		if slices.ContainsFunc(g.Inits, func(v api.Named) bool { return v.Name == o.Name }) {
			c["an initializer"]++
		}
	}
}

func TestGraphs(t *testing.T) {
	r := rand.New(rand.NewSource(1))
	c := tally{}
	errors := map[api.Errno]int{}
	for range 3000 {
		g := Graph(r.Intn, r.Intn(12), All)
		in := Inputs(r.Intn, g)
		if _, e := infer.All(g); e != api.OK {
			t.Fatalf("%v: %d", g, e)
		}
		for i, x := range in {
			if pb.Check(x) != api.OK || x.Type != g.In[i].Type || !slices.Equal(x.Dims, g.In[i].Dims) {
				t.Fatalf("%v for %v", x, g.In[i])
			}
		}
		c.graph(g)
		_, e := sem.Eval(g, in)
		errors[e]++
	}
	if errors[api.OK] < 2500 || errors[api.ErrDivide] < 40 || errors[api.ErrIndex] < 40 || len(errors) != 3 {
		t.Errorf("errors: %v", errors)
	}
	for _, op := range strings.Fields(All) {
		if c[op] < 100 || c[op+" then"] == 0 {
			t.Errorf("%s: %d times, %d with then", op, c[op], c[op+" then"])
		}
	}
	for _, what := range []string{"in another order", "unread", "twice", "an input", "an initializer", "Transpose perm", "Conv pads", "Gemm beta", "Slice axes", "Pad value"} {
		if c[what] < 50 {
			t.Errorf("%s: %d times", what, c[what])
		}
	}
}

// Of some operators alone, there are no others but what makes their inputs.
func TestOperators(t *testing.T) {
	r := rand.New(rand.NewSource(2))
	for range 200 {
		for _, n := range Graph(r.Intn, 8, "Neg Transpose").Nodes {
			if n.Op != "Neg" && n.Op != "Transpose" && n.Op != "Constant" {
				t.Fatalf("a %s", n.Op)
			}
		}
	}
}
