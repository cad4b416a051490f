package layout

import (
	"slices"
	"strings"

	"mandrel/api"
	"mandrel/attr"
	"mandrel/kind"
)

// rules stand in the order in which they are tried at a node; each tells whether it applied.
func rules() []func(*work, int) bool {
	return []func(*work, int) bool{(*work).leaveOut, (*work).joinTurns, (*work).joinReshapings}
}

// leaveOut takes a node away that does nothing: who read its value reads its input.
func (w *work) leaveOut(i int) bool {
	n := w.Nodes[i]
	if !w.doesNothing(n) || w.isOutput(n.Out) {
		return false
	}
	w.Nodes = slices.Delete(w.Nodes, i, i+1)
	for _, reader := range w.Nodes[i:] {
		for at, name := range reader.In {
			if name == n.Out {
				reader.In[at] = strings.Clone(n.In[0])
			}
		}
	}
	return true
}

// joinTurns lets a turn of a turn do both.
func (w *work) joinTurns(i int) bool {
	m, ok := w.ahead(i, isTurn)
	if !ok {
		return false
	}
	first := w.orderOf(m)
	var both []int64
	for _, p := range w.orderOf(w.Nodes[i]) {
		both = append(both, first[p])
	}
	w.become(i, "Transpose", m.In[0], "perm", both...)
	return true
}

// joinReshapings lets a reshaping of a reshaping do both.
func (w *work) joinReshapings(i int) bool {
	m, ok := w.ahead(i, kind.Reshaping)
	if !ok {
		return false
	}
	var shape []int64
	for _, d := range w.dims[w.Nodes[i].Out] {
		shape = append(shape, int64(d))
	}
	w.become(i, "Reshape", m.In[0], "shape", shape...)
	return true
}

func isTurn(op string) bool { return op == "Transpose" }

func (w *work) doesNothing(n api.Node) bool {
	switch {
	case follows(n):
		return false
	case n.Op == "Identity":
		return true
	case isTurn(n.Op):
		// An order has each number once.
		return slices.IsSorted(w.orderOf(n))
	case kind.Reshaping(n.Op), n.Op == "Expand":
		return slices.Equal(w.dims[n.Out], w.dims[n.In[0]])
	}
	return false
}

// ahead is the node whose value the one at i reads, if both are of one kind, and nothing follows in the first one.
func (w *work) ahead(i int, isKind func(string) bool) (api.Node, bool) {
	n := w.Nodes[i]
	if !isKind(n.Op) {
		return api.Node{}, false
	}
	at, ok := w.done[n.In[0]]
	if !ok || !isKind(w.Nodes[at].Op) || follows(w.Nodes[at]) {
		return api.Node{}, false
	}
	return w.Nodes[at], true
}

// become makes another node of the one at i, of the same value: one input, one list of numbers, and what followed in it.
func (w *work) become(i int, op, in, name string, numbers ...int64) {
	n := &w.Nodes[i]
	// Texts are memory of their own, as all that is answered.
	attrs := []api.Attr{{Name: strings.Clone(name), Kind: api.AttrInts, Ints: numbers}}
	if at := attr.ThenAt(*n); at >= 0 {
		attrs = append(attrs, n.Attrs[at])
	}
	n.Op, n.In, n.Attrs = strings.Clone(op), []string{strings.Clone(in)}, attrs
}

// orderOf is that of a turn.
func (w *work) orderOf(n api.Node) []int64 { return attr.Perm(n, len(w.dims[n.Out])) }

func (w *work) isOutput(name string) bool {
	return slices.ContainsFunc(w.Out, func(v api.Value) bool { return v.Name == name })
}

// follows tells whether a node has a then.
func follows(n api.Node) bool { return attr.ThenAt(n) >= 0 }
