package graph

import "mandrel/api"

// valueNames are those of the inputs, then of the initializers, then of what the nodes make.
func valueNames(g api.Graph) []string {
	var l []string
	for _, v := range g.In {
		l = append(l, v.Name)
	}
	for _, w := range g.Inits {
		l = append(l, w.Name)
	}
	for _, n := range g.Nodes {
		l = append(l, n.Out)
	}
	return l
}

func outputNames(g api.Graph) []string {
	var l []string
	for _, v := range g.Out {
		l = append(l, v.Name)
	}
	return l
}

// numbered is the place of each name in a list; false, if a name is empty or stands there twice.
func numbered(names []string) (map[string]int, bool) {
	numbers := make(map[string]int, len(names))
	for i, name := range names {
		if _, twice := numbers[name]; twice || name == "" {
			return nil, false
		}
		numbers[name] = i
	}
	return numbers, true
}

// namesFound tells whether there is an output, the outputs are unlike, and they and all that the nodes read are values.
func namesFound(g api.Graph, numbers map[string]int) bool {
	outputs := outputNames(g)
	if _, unlike := numbered(outputs); !unlike || len(outputs) == 0 || !allIn(numbers, outputs) {
		return false
	}
	for _, n := range g.Nodes {
		if !allIn(numbers, n.In) {
			return false
		}
	}
	return true
}

func allIn(numbers map[string]int, names []string) bool {
	for _, name := range names {
		if _, ok := numbers[name]; !ok {
			return false
		}
	}
	return true
}

// links are, of each node, how many of its inputs are values of nodes that are not in the order yet, and which nodes read its value, as often as they do.
type links struct {
	waits   []int
	readers [][]int
}

func linksOf(g api.Graph, numbers map[string]int) links {
	l := links{waits: make([]int, len(g.Nodes)), readers: make([][]int, len(g.Nodes))}
	for i, n := range g.Nodes {
		for _, name := range n.In {
			if maker := numbers[name] - len(g.In) - len(g.Inits); maker >= 0 {
				l.waits[i]++
				l.readers[maker] = append(l.readers[maker], i)
			}
		}
	}
	return l
}

// inOrder takes the least numbered node that waits for none, again and again, until there is none.
func inOrder(l links) []int {
	const taken = -1
	var order []int
again:
	for {
		for i, n := range l.waits {
			if n != 0 {
				continue
			}
			order = append(order, i)
			l.waits[i] = taken
			for _, r := range l.readers[i] {
				l.waits[r]--
			}
			continue again
		}
		break again
	}
	return order
}
