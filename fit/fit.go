// Package fit tells, for tests and by the document's words alone, which nodes are before or apart from one another, and whether a layout fits a graph.
package fit

import (
	"slices"
	"strings"

	"mandrel/api"
	"mandrel/graph"
	"mandrel/infer"
	"mandrel/spell"
)

// inPlace are the operators that go in place.
const inPlace = "Identity Neg Abs Not Relu Sqrt Floor Exp Sigmoid Tanh Reshape Squeeze Unsqueeze Flatten"

// Nodes are those of a graph that may be, in the order of work.
func Nodes(g api.Graph) []api.Node {
	order, _ := graph.Order(g)
	var l []api.Node
	for _, i := range order {
		l = append(l, g.Nodes[i])
	}
	return l
}

// Values are those that the nodes make, in the order of work.
func Values(g api.Graph) []api.Value {
	values, _ := infer.All(g)
	return values[len(values)-len(g.Nodes):]
}

// Before is a row for each node of a graph that may be.
func Before(g api.Graph) [][]bool {
	nodes := Nodes(g)
	rows := make([][]bool, len(nodes))
	for a, n := range nodes {
		rows[a] = make([]bool, len(nodes))
		for b, m := range nodes {
			rows[a][b] = slices.Contains(m.In, n.Out)
		}
	}
	for c := range nodes {
		for a := range nodes {
			for b := range nodes {
				rows[a][b] = rows[a][b] || rows[a][c] && rows[c][b]
			}
		}
	}
	return rows
}

// Apart tells of each two nodes of a graph that may be whether they are apart.
func Apart(g api.Graph) [][]bool {
	nodes, before := Nodes(g), Before(g)
	rows := make([][]bool, len(nodes))
	for a := range nodes {
		rows[a] = make([]bool, len(nodes))
		for b := range nodes {
			rows[a][b] = doneAhead(g, nodes, before, a, b) || doneAhead(g, nodes, before, b, a)
		}
	}
	return rows
}

func doneAhead(g api.Graph, nodes []api.Node, before [][]bool, a, b int) bool {
	done := !isOutput(g, nodes[a].Out) && before[a][b]
	for r, reader := range nodes {
		if slices.Contains(reader.In, nodes[a].Out) && !before[r][b] {
			done = false
		}
	}
	return done
}

func isOutput(g api.Graph, name string) bool {
	return slices.ContainsFunc(g.Out, func(v api.Value) bool { return v.Name == name })
}

// Width is how many bytes a value takes that may be.
func Width(v api.Value) int {
	return spell.Size(v.Dims) * map[int]int{api.Float: 4, api.Int32: 4, api.Int64: 8, api.Bool: 1}[v.Type]
}

// Rounded is a number of bytes, up to a multiple of 8.
func Rounded(length int) int {
	for length%8 != 0 {
		length++
	}
	return length
}

// Wide is a layout without two values that meet: all of them lie one behind the other.
func Wide(g api.Graph) api.Layout {
	var l api.Layout
	for _, v := range Values(g) {
		l.Places = append(l.Places, api.Place{Name: v.Name, At: l.Size, Len: Width(v)})
		l.Size += Rounded(Width(v))
	}
	return l
}

// Broken are the things for which a layout does not fit a graph of which infer.All is OK, each once and in a word: none, if it fits.
func Broken(g api.Graph, l api.Layout) []string {
	c := checker{g: g, l: l, nodes: Nodes(g), values: Values(g), before: Before(g)}
	if len(l.Places) != len(c.nodes) {
		return []string{"number"}
	}
	c.places()
	for _, pair := range l.Pairs {
		c.pair(pair)
	}
	c.meetings()
	return c.broken
}

type checker struct {
	g      api.Graph
	l      api.Layout
	nodes  []api.Node
	values []api.Value
	before [][]bool
	broken []string
}

// must notes a word, if something does not hold.
func (c *checker) must(holds bool, word string) {
	if !holds && !slices.Contains(c.broken, word) {
		c.broken = append(c.broken, word)
	}
}

// places are conditions 1 and 2.
func (c *checker) places() {
	sum := 0
	for i, p := range c.l.Places {
		c.must(p.Name == c.nodes[i].Out, "name")
		c.must(p.Len == Width(c.values[i]), "len")
		c.must(p.At >= 0 && p.At%8 == 0, "at")
		c.must(p.At <= c.l.Size && p.Len <= c.l.Size-p.At, "room")
		sum += Rounded(Width(c.values[i]))
	}
	c.must(c.l.Size%8 == 0, "size")
	c.must(c.l.Size <= sum, "sum")
}

// pair is condition 3.
func (c *checker) pair(p api.Pair) {
	made := func(name string) int {
		return slices.IndexFunc(c.nodes, func(n api.Node) bool { return n.Out == name })
	}
	young, old := made(p.New), made(p.Old)
	if young < 0 || old < 0 || young == old {
		c.must(false, "pair")
		return
	}
	n := c.nodes[young]
	c.must(slices.Contains(strings.Fields(inPlace), n.Op) && n.In[0] == p.Old, "in place")
	c.must(c.values[young].Type == c.values[old].Type && c.l.Places[young].Len == c.l.Places[old].Len, "like")
	c.must(c.l.Places[young].At == c.l.Places[old].At, "same at")
	c.must(!isOutput(c.g, p.Old), "output")
	for r, reader := range c.nodes {
		c.must(r == young || !slices.Contains(reader.In, p.Old) || c.before[r][young], "reader")
	}
	times := 0
	for _, q := range c.l.Pairs {
		if q.New == p.New || q.Old == p.Old {
			times++
		}
	}
	c.must(times == 1, "twice")
}

// meetings are condition 4.
func (c *checker) meetings() {
	for a, p := range c.l.Places {
		for b, q := range c.l.Places[:a] {
			if p.At >= q.At+q.Len || q.At >= p.At+p.Len {
				continue
			}
			apart := doneAhead(c.g, c.nodes, c.before, a, b) || doneAhead(c.g, c.nodes, c.before, b, a)
			paired := slices.ContainsFunc(c.l.Pairs, func(r api.Pair) bool {
				return r == api.Pair{New: p.Name, Old: q.Name} || r == api.Pair{New: q.Name, Old: p.Name}
			})
			c.must(apart || paired, "meet")
		}
	}
}
