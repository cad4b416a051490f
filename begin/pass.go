package begin

import (
	"slices"
	"strings"

	"mandrel/api"
	"mandrel/graph"
	"mandrel/infer"
)

// Pass is what a pass, or a run that keeps its graph, begins with: a graph of its own, whose nodes stand in the order of work, and all values, those of the nodes behind the others and in the same order.
func Pass(g api.Graph) (api.Graph, []api.Value, api.Errno) {
	values, e := infer.All(g)
	if e != api.OK {
		return api.Graph{}, nil, e
	}
	// infer has seen the graph: it has an order.
	order, _ := graph.Order(g)
	return copyInOrder(g, order), values, api.OK
}

func copyInOrder(g api.Graph, order []int) api.Graph {
	c := api.Graph{
		Name:  strings.Clone(g.Name),
		In:    copyEach(g.In, copyValue),
		Out:   copyEach(g.Out, copyValue),
		Inits: copyEach(g.Inits, copyNamed),
	}
	for _, i := range order {
		c.Nodes = append(c.Nodes, copyNode(g.Nodes[i]))
	}
	return c
}

func copyEach[T any](l []T, copyOne func(T) T) []T {
	c := make([]T, len(l))
	for i, x := range l {
		c[i] = copyOne(x)
	}
	return c
}

func copyNode(n api.Node) api.Node {
	return api.Node{
		Op:    strings.Clone(n.Op),
		Name:  strings.Clone(n.Name),
		In:    copyEach(n.In, strings.Clone),
		Out:   strings.Clone(n.Out),
		Attrs: copyEach(n.Attrs, copyAttr),
	}
}

func copyAttr(a api.Attr) api.Attr {
	a.Name, a.S = strings.Clone(a.Name), strings.Clone(a.S)
	a.T, a.Ints = copyTensor(a.T), slices.Clone(a.Ints)
	return a
}

func copyValue(v api.Value) api.Value {
	return api.Value{Name: strings.Clone(v.Name), Type: v.Type, Dims: slices.Clone(v.Dims)}
}

func copyNamed(w api.Named) api.Named {
	return api.Named{Name: strings.Clone(w.Name), T: copyTensor(w.T)}
}

func copyTensor(t api.Tensor) api.Tensor {
	return api.Tensor{Type: t.Type, Dims: slices.Clone(t.Dims), Data: slices.Clone(t.Data)}
}
