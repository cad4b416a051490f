package graph

import (
	"testing"

	"mandrel/api"
	"mandrel/spell"
)

// fault is something wrong in a graph, and the error that it has by itself.
type fault struct {
	name string
	make func(*api.Graph)
	e    api.Errno
}

// faults stand in the order in which they are met; one that stands later does not hide one ahead.
func faults() []fault {
	return []fault{
		{"nodes", func(g *api.Graph) {
			for len(g.Nodes) <= api.MaxNodes {
				g.Nodes = append(g.Nodes, api.Node{})
			}
		}, api.ErrLimit},
		{"first input, type", func(g *api.Graph) { g.In[0].Type = 8 }, api.ErrUnsupported},
		{"first input, too great", func(g *api.Graph) { g.In[0].Dims = []int{2, 65536} }, api.ErrLimit},
		{"second input, dims", func(g *api.Graph) { g.In[1].Dims = []int{0} }, api.ErrGraph},
		{"third input, type", func(g *api.Graph) { g.In[2].Type = 0 }, api.ErrUnsupported},
		{"first initializer, too great", func(g *api.Graph) { g.Inits[0].T.Dims = []int{65537} }, api.ErrLimit},
		{"second initializer, type", func(g *api.Graph) { g.Inits[1].T.Type = 0 }, api.ErrUnsupported},
		{"third initializer, elements", func(g *api.Graph) { g.Inits[2].T.Data = nil }, api.ErrGraph},
		{"first node, operator", func(g *api.Graph) { g.Nodes[0].Op = "What" }, api.ErrUnsupported},
		{"second node, value", func(g *api.Graph) { g.Nodes[1].Attrs[0].T.Dims = []int{1, 1, 1, 1, 1, 1, 1} }, api.ErrLimit},
		{"third node, inputs", func(g *api.Graph) { g.Nodes[2].In = append(g.Nodes[2].In, "x", "x") }, api.ErrGraph},
		{"fourth node, attribute", func(g *api.Graph) { g.Nodes[3].Attrs = []api.Attr{{Name: "what"}} }, api.ErrUnsupported},
		{"no output", func(g *api.Graph) { g.Out = nil }, api.ErrGraph},
		{"a name twice", func(g *api.Graph) { g.In[1].Name = "x" }, api.ErrGraph},
		{"a name that is none", func(g *api.Graph) { g.Nodes[3].In[0] = "none" }, api.ErrGraph},
		{"a ring", func(g *api.Graph) { g.Nodes[3].In[0] = "d" }, api.ErrGraph},
	}
}

func faultless() api.Graph {
	return spell.Graph("in x f\nin y f\nin z f\ninit u b: 1\ninit v b: 0\ninit w b: 1\na = Neg(x)\nb = Constant(); value=f: 1\nc = Add(x, y)\nd = Neg(a)\nout d f\nout x f")
}

func TestTheFirstErrorIsMet(t *testing.T) {
	expect(t, "without a fault", faultless(), []int{0, 1, 2, 3}, api.OK)
	for i, first := range faults() {
		g := faultless()
		first.make(&g)
		expect(t, first.name, g, nil, first.e)
		for _, later := range faults()[i+1:] {
			g := faultless()
			later.make(&g)
			first.make(&g)
			expect(t, "R2: "+first.name+", then "+later.name, g, nil, first.e)
		}
	}
}

// Too many values or outputs are met ahead of what is wrong in one of them.
func TestLimitsAheadOfParts(t *testing.T) {
	for _, g := range []api.Graph{sized(3001, 0, 0, 0), sized(0, 3001, 0, 0), sized(1, 2000, 1000, 0), sized(1, 1, 1, 3001)} {
		for i := range g.In {
			g.In[i].Type = 0
		}
		for i := range g.Nodes {
			g.Nodes[i].Op = ""
		}
		expect(t, "R2: too many of all", g, nil, api.ErrLimit)
	}
}
