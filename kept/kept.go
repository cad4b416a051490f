// Package kept tells, for tests, whether a pass keeps what all passes must keep.
package kept

import (
	"slices"

	"mandrel/api"
	"mandrel/graph"
	"mandrel/infer"
	"mandrel/sem"
	"mandrel/spell"
)

// Pass makes another graph of a graph.
type Pass = func(api.Graph) (api.Graph, api.Errno)

// Broken are the things that a pass does not keep of a graph that may be, each in a word: none, if all is well. The meanings of both graphs are held against each other of each of some inputs, such as the graph has or not.
func Broken(pass Pass, g api.Graph, inputs ...[]api.Tensor) []string {
	l := Lost(pass, g, inputs...)
	if !twiceIsOnce(pass, g) {
		l = append(l, "twice")
	}
	return l
}

// Lost is Broken of passes that may go on, done a second time.
func Lost(pass Pass, g api.Graph, inputs ...[]api.Tensor) []string {
	h, e := pass(g)
	if e != api.OK {
		return []string{"error"}
	}
	if _, e := infer.All(h); e != api.OK {
		return []string{"graph"}
	}
	var l []string
	if h.Name != g.Name || !spell.SameValues(h.In, g.In) || !spell.SameValues(h.Out, g.Out) {
		l = append(l, "ends")
	}
	if order, _ := graph.Order(h); !slices.IsSorted(order) {
		l = append(l, "order")
	}
	for _, in := range inputs {
		if !sameMeaning(g, h, in) {
			return append(l, "meaning")
		}
	}
	return l
}

// twiceIsOnce is asked of what a pass made well alone: Lost tells of all else.
func twiceIsOnce(pass Pass, g api.Graph) bool {
	once, e := pass(g)
	if e != api.OK {
		return true
	}
	if _, e := infer.All(once); e != api.OK {
		return true
	}
	twice, e := pass(once)
	return e == api.OK && spell.SameGraphs(twice, once)
}

// InOrder is a graph that may be, with its nodes in the order of work.
func InOrder(g api.Graph) api.Graph {
	order, _ := graph.Order(g)
	nodes := g.Nodes
	g.Nodes = nil
	for _, i := range order {
		g.Nodes = append(g.Nodes, nodes[i])
	}
	return g
}

func sameMeaning(g, h api.Graph, in []api.Tensor) bool {
	want, e := sem.Eval(g, in)
	got, f := sem.Eval(h, in)
	return e == f && slices.EqualFunc(got, want, spell.Same)
}
