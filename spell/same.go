package spell

import (
	"slices"

	"mandrel/api"
)

// Same tells whether two tensors are alike in all.
func Same(a, b api.Tensor) bool {
	return a.Type == b.Type && slices.Equal(a.Dims, b.Dims) && slices.Equal(a.Data, b.Data)
}

// SameGraphs tells whether two graphs are alike in all, the order of their parts too.
func SameGraphs(a, b api.Graph) bool {
	return a.Name == b.Name && SameValues(a.In, b.In) && SameValues(a.Out, b.Out) &&
		slices.EqualFunc(a.Nodes, b.Nodes, sameNode) && slices.EqualFunc(a.Inits, b.Inits, sameNamed)
}

// SameValues tells whether two lists of values are alike in all.
func SameValues(a, b []api.Value) bool {
	return slices.EqualFunc(a, b, func(v, w api.Value) bool {
		return v.Name == w.Name && v.Type == w.Type && slices.Equal(v.Dims, w.Dims)
	})
}

func sameNode(a, b api.Node) bool {
	return a.Op == b.Op && a.Name == b.Name && a.Out == b.Out && slices.Equal(a.In, b.In) && slices.EqualFunc(a.Attrs, b.Attrs, sameAttr)
}

func sameAttr(a, b api.Attr) bool {
	return a.Name == b.Name && a.Kind == b.Kind && a.F == b.F && a.I == b.I && a.S == b.S && Same(a.T, b.T) && slices.Equal(a.Ints, b.Ints)
}

func sameNamed(a, b api.Named) bool { return a.Name == b.Name && Same(a.T, b.T) }
