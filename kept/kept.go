// Package kept tells, for tests, whether a pass keeps what all passes must keep.
package kept

import (
	"slices"

	"mandrel/api"
	"mandrel/graph"
	"mandrel/infer"
	"mandrel/sem"
	"mandrel/spell"
)

// Pass makes another graph of a graph.
type Pass = func(api.Graph) (api.Graph, api.Errno)

// Broken are the things that a pass does not keep of a graph that may be, each in a word: none, if all is well. The meanings of both graphs are held against each other of each of some inputs, such as the graph has or not.
func Broken(pass Pass, g api.Graph, inputs ...[]api.Tensor) []string {
	h, e := pass(g)
	if e != api.OK {
		return []string{"error"}
	}
	if _, e := infer.All(h); e != api.OK {
		return []string{"graph"}
	}
	var l []string
	if h.Name != g.Name || !spell.SameValues(h.In, g.In) || !spell.SameValues(h.Out, g.Out) {
		l = append(l, "ends")
	}
	if order, _ := graph.Order(h); !slices.IsSorted(order) {
		l = append(l, "order")
	}
	if twice, e := pass(h); e != api.OK || !spell.SameGraphs(twice, h) {
		l = append(l, "twice")
	}
	for _, in := range inputs {
		if !sameMeaning(g, h, in) {
			return append(l, "meaning")
		}
	}
	return l
}

// InOrder is a graph that may be, with its nodes in the order of work.
func InOrder(g api.Graph) api.Graph {
	order, _ := graph.Order(g)
	nodes := g.Nodes
	g.Nodes = nil
	for _, i := range order {
		g.Nodes = append(g.Nodes, nodes[i])
	}
	return g
}

func sameMeaning(g, h api.Graph, in []api.Tensor) bool {
	want, e := sem.Eval(g, in)
	got, f := sem.Eval(h, in)
	return e == f && slices.EqualFunc(got, want, spell.Same)
}
