package sched

import (
	"mandrel/api"
	"mandrel/infer"
	"mandrel/live"
	"mandrel/needs"
	"mandrel/room"
)

// Fits tells whether a layout fits a graph that may be.
func Fits(g api.Graph, l api.Layout) bool {
	values, e := infer.All(g)
	return e == api.OK && fits(g, values, l)
}

// fits asks what a layout must have of a graph of which infer has found these values.
func fits(g api.Graph, values []api.Value, l api.Layout) bool {
	if !lies(l, values[len(g.In)+len(g.Inits):]) {
		return false
	}
	// infer has seen the graph: it has an order.
	nodes, _ := needs.Of(g)
	before, _ := live.Before(g)
	f := fitting{Layout: l, nodes: nodes, before: before, takes: map[int]int{}}
	return f.pairUp() && f.areFar()
}

// lies tells whether there is a place of each value that the nodes make, and no more room than for all of them.
func lies(l api.Layout, values []api.Value) bool {
	lens, all := room.Of(values)
	if len(l.Places) != len(values) || l.Size%api.Align != 0 || l.Size > all {
		return false
	}
	for i, p := range l.Places {
		if p.Name != values[i].Name || p.Len != lens[i] {
			return false
		}
		// The size less the length, not both numbers' sum: that may be greater than any int.
		if p.At < 0 || p.At%api.Align != 0 || p.Len > l.Size || p.At > l.Size-p.Len {
			return false
		}
	}
	return true
}

// fitting is a layout all of whose places lie where they may, each by itself.
type fitting struct {
	api.Layout
	nodes  needs.Nodes
	before [][]bool
	takes  map[int]int // the nodes whose places others take, by these others
}

// pairUp notes all pairs, and tells whether they may be.
func (f fitting) pairUp() bool {
	number := map[string]int{}
	for i, p := range f.Places {
		number[p.Name] = i
	}
	for _, p := range f.Pairs {
		young, isYoung := number[p.New]
		old, isOld := number[p.Old]
		if !isYoung || !isOld || !f.mayTake(young, old) {
			return false
		}
		f.takes[young] = old
	}
	return true
}

// mayTake tells whether a node may take another one's place, and has it, and takes none yet. (Two nodes never may take one place: each would have to be before the other.)
func (f fitting) mayTake(young, old int) bool {
	_, twice := f.takes[young]
	may, ok := f.nodes.InPlace(f.before, young)
	return !twice && ok && may == old && f.Places[young].At == f.Places[old].At
}

// areFar tells whether any two values whose bytes meet are a pair, or apart.
func (f fitting) areFar() bool {
	for b, q := range f.Places {
		for a, p := range f.Places[:b] {
			if p.At < q.At+q.Len && q.At < p.At+p.Len && !f.isPair(a, b) && !f.nodes.Apart(f.before, a, b) {
				return false
			}
		}
	}
	return true
}

// isPair asks in one order alone: who takes a place reads what lies there, and stands behind it.
func (f fitting) isPair(old, young int) bool {
	a, ok := f.takes[young]
	return ok && a == old
}
