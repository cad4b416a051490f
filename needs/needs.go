// Package needs tells of a graph's nodes, by their numbers in the order of work, who needs whose value, and how long.
package needs

import (
	"slices"

	"mandrel/api"
	"mandrel/graph"
	"mandrel/kind"
)

// Nodes are those of a graph, in the order of work.
type Nodes struct {
	List    []api.Node
	Reads   [][]int // the nodes whose values each one reads, in the order of its inputs, each once
	Readers [][]int // the nodes that read each one's value, rising, each once
	IsOut   []bool  // whether each one's value is an output
}

// Of a graph, or graph.Check's error. The nodes' lists are the graph's own.
func Of(g api.Graph) (Nodes, api.Errno) {
	order, e := graph.Order(g)
	if e != api.OK {
		return Nodes{}, e
	}
	many := len(order)
	n := Nodes{List: make([]api.Node, many), Reads: make([][]int, many), Readers: make([][]int, many), IsOut: make([]bool, many)}
	made := map[string]int{}
	for i, at := range order {
		n.List[i] = g.Nodes[at]
		n.read(i, made)
		made[n.List[i].Out] = i
	}
	for _, o := range g.Out {
		if i, ok := made[o.Name]; ok {
			n.IsOut[i] = true
		}
	}
	return n, api.OK
}

// read notes whose values a node reads. In the order of work they are all made ahead of it.
func (n Nodes) read(i int, made map[string]int) {
	for _, name := range n.List[i].In {
		if a, ok := made[name]; ok && !slices.Contains(n.Reads[i], a) {
			n.Reads[i] = append(n.Reads[i], a)
			n.Readers[a] = append(n.Readers[a], i)
		}
	}
}

// Apart tells of two nodes whether one of them is done with ahead of the other, by rows such as live.Before answers.
func (n Nodes) Apart(before [][]bool, a, b int) bool {
	return n.isDone(before, a, b) || n.isDone(before, b, a)
}

// isDone tells whether a is done with ahead of b. Who has no reader is before nobody.
func (n Nodes) isDone(before [][]bool, a, b int) bool {
	return !n.IsOut[a] && before[a][b] && allBefore(before, n.Readers[a], b)
}

// InPlace is the node whose value a node may take the place of; false, if there is none. Operators that go in place keep the type and the number of elements.
func (n Nodes) InPlace(before [][]bool, i int) (int, bool) {
	if !kind.InPlace(n.List[i].Op) || len(n.Reads[i]) == 0 {
		return 0, false
	}
	old := n.Reads[i][0]
	others := slices.DeleteFunc(slices.Clone(n.Readers[old]), func(reader int) bool { return reader == i })
	if n.IsOut[old] || !allBefore(before, others, i) {
		return 0, false
	}
	return old, true
}

// allBefore tells whether all of some nodes are before another one.
func allBefore(before [][]bool, nodes []int, b int) bool {
	return !slices.ContainsFunc(nodes, func(a int) bool { return !before[a][b] })
}
