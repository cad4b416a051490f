package graph

import (
	"slices"
	"strconv"
	"testing"

	"mandrel/api"
	"mandrel/spell"
)

// expect holds Check and Order against what is wanted; no order is wanted beside an error.
func expect(t *testing.T, promise string, g api.Graph, want []int, e api.Errno) {
	t.Helper()
	if got := Check(g); got != e {
		t.Errorf("P7.1: %s: Check: %d, not %d", promise, got, e)
	}
	if l, got := Order(g); !slices.Equal(l, want) || got != e {
		t.Errorf("P7.2: %s: Order: %d, %d, not %d, %d", promise, l, got, want, e)
	}
}

func TestExamples(t *testing.T) {
	expect(t, "example 1", spell.Graph("in x f 2\nout y f 2\ny = Neg(z)\nz = Neg(x)"), []int{1, 0}, api.OK)
	expect(t, "example 1", spell.Graph("in x f 2\nout y f 2\nz = Neg(y)\ny = Neg(z)"), nil, api.ErrGraph)
}

// sized is a graph with as many inputs, initializers, nodes and outputs; the outputs begin with the first value.
func sized(in, inits, nodes, outs int) api.Graph {
	var g api.Graph
	name := func(i int) string { return "v" + strconv.Itoa(i) }
	for i := range in {
		g.In = append(g.In, api.Value{Name: name(i), Type: api.Float})
	}
	for i := range inits {
		g.Inits = append(g.Inits, api.Named{Name: name(in + i), T: api.Tensor{Type: api.Bool, Data: []int64{1}}})
	}
	for i := range nodes {
		g.Nodes = append(g.Nodes, api.Node{Op: "Not", In: []string{name(0)}, Out: name(in + inits + i)})
	}
	for i := range outs {
		g.Out = append(g.Out, api.Value{Name: name(i)})
	}
	return g
}

func TestLimits(t *testing.T) {
	for _, c := range []struct {
		in, inits, nodes, outs int
		e                      api.Errno
	}{
		{1, 0, 1000, 1, api.OK},
		{1, 0, 1001, 1, api.ErrLimit},
		{1000, 1000, 1000, 1, api.OK},
		{1001, 1000, 1000, 1, api.ErrLimit},
		{1000, 1001, 1000, 1, api.ErrLimit},
		{3000, 0, 0, 1, api.OK},
		{3001, 0, 0, 1, api.ErrLimit},
		{1, 2999, 0, 1, api.OK},
		{1, 3000, 0, 1, api.ErrLimit},
		{2001, 0, 999, 1, api.OK},
		{2001, 0, 1000, 1, api.ErrLimit},
		{1000, 1000, 1000, 3000, api.OK},
		{1000, 1000, 1000, 3001, api.ErrLimit},
		{1, 0, 0, 3001, api.ErrLimit},
	} {
		g := sized(c.in, c.inits, c.nodes, c.outs)
		if e := Check(g); e != c.e {
			t.Errorf("P7.1: %d inputs, %d initializers, %d nodes, %d outputs: %d, not %d", c.in, c.inits, c.nodes, c.outs, e, c.e)
		}
		if l, e := Order(g); e != c.e || e != api.OK && len(l) != 0 {
			t.Errorf("P7.2: %d inputs, %d initializers, %d nodes, %d outputs: %d, not %d", c.in, c.inits, c.nodes, c.outs, e, c.e)
		}
	}
}

func TestGraphsThatMayBe(t *testing.T) {
	for _, c := range []struct {
		text string
		want []int
	}{
		{"in x f 2\nout x f 2", nil},
		{"init w b: 1\nout w b", nil},
		{"c = Constant(); value=b: 1\nout c b", []int{0}},
		{"in x f\nin y i 1 1 1 1 1 1\nin z l 65536\nin w b 256 256\nout w b", nil},
		{"in x f 2\nz = Add(x, x)\nout z f 2", []int{0}},
		{"in x f 2\nz = Add(y, y)\ny = Neg(x)\nout z f 2", []int{1, 0}},
		// An output may be another thing than its value: that is no matter of this layer.
		{"in x f 2\nout x 5 0 -1", nil},
		// Types and dims that do not go together neither.
		{"in x f 2\nin y b 3\nz = Add(x, y)\nout z f", []int{0}},
		// What nobody reads is in the order too.
		{"in x f 2\na = Neg(x)\nb = Neg(a)\nout x f 2", []int{0, 1}},
		{"in x f\nd = Neg(c)\nc = Neg(b)\nb = Neg(a)\na = Neg(x)\nout d f", []int{3, 2, 1, 0}},
		// The least numbered one is taken, also when it comes to be ready late.
		{"in x f\na = Neg(b)\nc = Neg(x)\nb = Neg(x)\nd = Neg(c)\nout a f", []int{1, 2, 0, 3}},
		{"in x f\na = Add(e, c)\nb = Neg(a)\nc = Neg(x)\nd = Neg(x)\ne = Neg(d)\nout a f", []int{2, 3, 4, 0, 1}},
	} {
		expect(t, c.text, spell.Graph(c.text), c.want, api.OK)
	}
}

func TestGraphsThatMayNotBe(t *testing.T) {
	for _, c := range []struct {
		text string
		e    api.Errno
	}{
		{"", api.ErrGraph},
		// Inputs.
		{"in x 0 2\nout x f", api.ErrUnsupported},
		{"in x 2 2\nout x f", api.ErrUnsupported},
		{"in x 10 2\nout x f", api.ErrUnsupported},
		{"in x -1 2\nout x f", api.ErrUnsupported},
		{"in x f 0\nout x f", api.ErrGraph},
		{"in x f 2 -1\nout x f", api.ErrGraph},
		{"in x f 65537\nout x f", api.ErrLimit},
		{"in x f 1 1 1 1 1 1 1\nout x f", api.ErrLimit},
		{"in x f\nin y 3\nout x f", api.ErrUnsupported},
		// Initializers.
		{"in x f\ninit w 2: 1\nout x f", api.ErrUnsupported},
		{"in x f\ninit w i 0:\nout x f", api.ErrGraph},
		{"in x f\ninit w i 65537:\nout x f", api.ErrLimit},
		{"in x f\ninit w i 2: 1\nout x f", api.ErrGraph},
		{"in x f\ninit w b 2: 1 2\nout x f", api.ErrGraph},
		{"in x f\ninit w b: 1\ninit v b: 2\nout x f", api.ErrGraph},
		// Nodes.
		{"in x f\nz = What(x)\nout x f", api.ErrUnsupported},
		{"in x f\nz = Add(x)\nout x f", api.ErrGraph},
		{"in x f\nz = Neg(x); axis=1\nout x f", api.ErrUnsupported},
		{"in x f\nz = Neg(x)\ny = Neg(x); then=What\nout x f", api.ErrGraph},
		{"in x f\nc = Constant(); value=f 65537:\nout x f", api.ErrLimit},
		{"in x f\n= Neg(x)\nout x f", api.ErrUnsupported},
		// Names.
		{"in x f", api.ErrGraph},
		{"in x f\nz = Neg(x)", api.ErrGraph},
		{"in x f\nin x f\nout x f", api.ErrGraph},
		{"in x f\nin x b 2\nout x f", api.ErrGraph},
		{"in x f\ninit x b: 1\nout x f", api.ErrGraph},
		{"in x f\nx = Neg(x)\nout x f", api.ErrGraph},
		{"in x f\ninit w b: 1\ninit w b: 1\nout x f", api.ErrGraph},
		{"in x f\ninit w b: 1\nw = Neg(x)\nout x f", api.ErrGraph},
		{"in x f\nz = Neg(x)\nz = Neg(x)\nout x f", api.ErrGraph},
		{"in x f\nz = Neg(y)\nout x f", api.ErrGraph},
		{"in x f\nz = Neg(y)\nout x f\nout y f", api.ErrGraph},
		{"in x f\nz = Add(x, y)\nout z f", api.ErrGraph},
		{"in x f\nz = Add(y, x)\nout z f", api.ErrGraph},
		{"in x f\nz = Neg(X)\nout z f", api.ErrGraph},
		{"in x f\nout y f", api.ErrGraph},
		{"in x f\nout x f\nout y f", api.ErrGraph},
		{"in x f\nout x f\nout x f", api.ErrGraph},
		{"in x f\nz = Neg(x)\nout z f\nout x f\nout z b 2", api.ErrGraph},
		// A node that needs its own value.
		{"in x f\nz = Neg(z)\nout z f", api.ErrGraph},
		{"in x f\nz = Add(x, z)\nout x f", api.ErrGraph},
		{"in x f\nz = Neg(y)\ny = Neg(z)\nout x f", api.ErrGraph},
		{"in x f\na = Neg(x)\nb = Add(a, e)\nc = Neg(b)\nd = Add(c, c)\ne = Neg(d)\nf = Neg(a)\nout f f", api.ErrGraph},
	} {
		expect(t, c.text, spell.Graph(c.text), nil, c.e)
	}
}

func TestEmptyNames(t *testing.T) {
	for name, change := range map[string]func(*api.Graph){
		"an input's":       func(g *api.Graph) { g.In[1].Name = "" },
		"an initializer's": func(g *api.Graph) { g.Inits[0].Name = "" },
		"an output's":      func(g *api.Graph) { g.Out[0].Name = "" },
		"all": func(g *api.Graph) {
			g.In[1].Name, g.Out[0].Name = "", ""
		},
	} {
		g := spell.Graph("in x f\nin y f\ninit w f: 1\nz = Neg(x)\nout z f")
		change(&g)
		expect(t, "an empty name, "+name, g, nil, api.ErrGraph)
	}
}

// chain is x, and nodes that each read the one ahead, the last one first or last.
func chain(length int, lastFirst bool) api.Graph {
	g := api.Graph{In: []api.Value{{Name: "v0", Type: api.Float}}, Out: []api.Value{{Name: "v" + strconv.Itoa(length)}}}
	for i := range length {
		g.Nodes = append(g.Nodes, api.Node{Op: "Neg", In: []string{"v" + strconv.Itoa(i)}, Out: "v" + strconv.Itoa(i+1)})
	}
	if lastFirst {
		slices.Reverse(g.Nodes)
	}
	return g
}

func TestLongChains(t *testing.T) {
	var rising []int
	for i := range api.MaxNodes {
		rising = append(rising, i)
	}
	falling := slices.Clone(rising)
	slices.Reverse(falling)
	expect(t, "a chain as it stands", chain(api.MaxNodes, false), rising, api.OK)
	expect(t, "a chain the other way round", chain(api.MaxNodes, true), falling, api.OK)
	for _, lastFirst := range []bool{false, true} {
		g := chain(api.MaxNodes, lastFirst)
		for i := range g.Nodes {
			if g.Nodes[i].In[0] == "v0" {
				g.Nodes[i].In[0] = g.Out[0].Name
			}
		}
		expect(t, "a ring of all nodes", g, nil, api.ErrGraph)
	}
}
