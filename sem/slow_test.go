package sem

import (
	"math/rand"
	"slices"
	"strconv"
	"testing"

	"mandrel/api"
	"mandrel/pb"
	"mandrel/sample"
	"mandrel/schema"
	"mandrel/spell"
)

// meaning is the document's definition: again and again the first node whose inputs are all there is done.
func meaning(g api.Graph, in []api.Tensor) ([]api.Tensor, api.Errno) {
	v := map[string]*api.Tensor{}
	for i := range in {
		v[g.In[i].Name] = &in[i]
	}
	for i := range g.Inits {
		v[g.Inits[i].Name] = &g.Inits[i].T
	}
	for done := 0; done < len(g.Nodes); done++ {
		n := g.Nodes[slices.IndexFunc(g.Nodes, func(n api.Node) bool {
			missing := func(name string) bool { return v[name] == nil }
			return v[n.Out] == nil && !slices.ContainsFunc(n.In, missing)
		})]
		var l []api.Tensor
		for _, name := range n.In {
			l = append(l, *v[name])
		}
		t, e := byHand(n, l)
		if e != api.OK {
			return nil, e
		}
		v[n.Out] = &t
	}
	var out []api.Tensor
	for _, o := range g.Out {
		out = append(out, *v[o.Name])
	}
	return out, api.OK
}

func TestAgainstTheDefinition(t *testing.T) {
	r := rand.New(rand.NewSource(142))
	errors := map[api.Errno]int{}
	for range 6000 {
		g := sample.Graph(r.Intn, r.Intn(16), sample.All)
		in := sample.Inputs(r.Intn, g)
		got, e := Eval(g, in)
		want, f := meaning(g, in)
		if e != f || !slices.EqualFunc(got, want, spell.Same) {
			t.Fatalf("P14.2: %v of %v: %v, %d, not %v, %d", g, in, got, e, want, f)
		}
		errors[e]++
		if e != api.OK {
			continue
		}
		for i, o := range g.Out {
			if pb.Check(got[i]) != api.OK || got[i].Type != o.Type || !slices.Equal(got[i].Dims, o.Dims) {
				t.Fatalf("P14.3: %v comes out as %v", o, got[i])
			}
		}
	}
	if len(errors) != 3 || errors[api.ErrDivide] == 0 || errors[api.ErrIndex] == 0 {
		t.Errorf("P14.3: errors of runs: %v", errors)
	}
}

// splitThen puts each operator that follows in a node into a node of its own behind it.
func splitThen(g api.Graph) api.Graph {
	var nodes []api.Node
	for _, n := range g.Nodes {
		ops, _ := schema.Then(n)
		out := n.Out
		n.Attrs = slices.DeleteFunc(slices.Clone(n.Attrs), func(a api.Attr) bool { return a.Name == "then" })
		for i, op := range ops {
			n.Out = out + " ahead of " + strconv.Itoa(i)
			nodes = append(nodes, n)
			n = api.Node{Op: op, In: []string{n.Out}, Out: out}
		}
		nodes = append(nodes, n)
	}
	g.Nodes = nodes
	return g
}

func TestThenInNodesOfTheirOwn(t *testing.T) {
	r := rand.New(rand.NewSource(143))
	with := 0
	for range 3000 {
		g := sample.Graph(r.Intn, 1+r.Intn(12), sample.All)
		in := sample.Inputs(r.Intn, g)
		split := splitThen(g)
		with += len(split.Nodes) - len(g.Nodes)
		got, e := Eval(split, in)
		want, f := Eval(g, in)
		if e != f || !slices.EqualFunc(got, want, spell.Same) {
			t.Fatalf("P14.3: %v of %v: %v, %d, not %v, %d", split, in, got, e, want, f)
		}
	}
	if with < 1000 {
		t.Errorf("only %d operators in then", with)
	}
}
