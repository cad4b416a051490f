package graph

import (
	"math/rand"
	"slices"
	"strconv"
	"testing"

	"mandrel/api"
	"mandrel/spell"
)

// slowOrder goes by the words of the document alone.
func slowOrder(g api.Graph) []int {
	var order []int
	ready := func(i int) bool {
		if slices.Contains(order, i) {
			return false
		}
		for k, m := range g.Nodes {
			if slices.Contains(g.Nodes[i].In, m.Out) && !slices.Contains(order, k) {
				return false
			}
		}
		return true
	}
	for {
		i := 0
		for i < len(g.Nodes) && !ready(i) {
			i++
		}
		if i == len(g.Nodes) {
			return order
		}
		order = append(order, i)
	}
}

// someGraph has nodes that read inputs, initializers and any nodes; with a ring, if they may read those behind.
func someGraph(r *rand.Rand, behind bool) api.Graph {
	g := spell.Graph("in x f\nin y f\ninit w f: 1\nout x f")
	names := []string{"x", "y", "w"}
	count := r.Intn(12)
	all := slices.Clone(names)
	for i := range count {
		all = append(all, "n"+strconv.Itoa(i))
	}
	for i := range count {
		from := names
		if behind {
			from = all
		}
		n := api.Node{Op: "Concat", Out: "n" + strconv.Itoa(i), Attrs: []api.Attr{{Name: "axis", Kind: api.AttrInt}}}
		for range 1 + r.Intn(3) {
			n.In = append(n.In, from[r.Intn(len(from))])
		}
		names = append(names, n.Out)
		g.Nodes = append(g.Nodes, n)
	}
	r.Shuffle(count, func(i, k int) { g.Nodes[i], g.Nodes[k] = g.Nodes[k], g.Nodes[i] })
	return g
}

func TestOrderAgainstTheWords(t *testing.T) {
	r := rand.New(rand.NewSource(7))
	rings := 0
	for i := range 20000 {
		g := someGraph(r, i%2 == 1)
		want := slowOrder(g)
		if len(want) < len(g.Nodes) {
			rings++
			expect(t, "a ring", g, nil, api.ErrGraph)
			continue
		}
		expect(t, "some nodes", g, want, api.OK)
		expectStanding(t, g, want)
	}
	if rings < 1000 || rings > 19000 {
		t.Errorf("%d rings", rings)
	}
}

// expectStanding is P7.4: each node once, behind what it reads; put into that order, the graph is ordered as it stands.
func expectStanding(t *testing.T, g api.Graph, order []int) {
	t.Helper()
	put := g
	put.Nodes = nil
	var rising []int
	for at, i := range order {
		for k, n := range g.Nodes {
			if slices.Contains(g.Nodes[i].In, n.Out) && !slices.Contains(order[:at], k) {
				t.Errorf("P7.4: %d: node %d stands ahead of %d", order, i, k)
			}
		}
		put.Nodes = append(put.Nodes, g.Nodes[i])
		rising = append(rising, at)
	}
	if sorted := slices.Sorted(slices.Values(order)); !slices.Equal(sorted, rising) {
		t.Errorf("P7.4: %d: not each node once", order)
	}
	expect(t, "P7.4: as it stands", put, rising, api.OK)
}

func TestReaders(t *testing.T) {
	g := api.Graph{Nodes: []api.Node{
		{Op: "Neg", In: []string{"x"}, Out: "y"},
		{Op: "Neg", In: []string{"y"}, Out: "z"},
		{Op: "Add", In: []string{"x", "x"}, Out: "w"},
		{Op: "What", In: []string{"a", "", "y", "x", "y"}, Out: "x"},
		{Out: "none"},
	}, In: []api.Value{{Name: "in"}}, Out: []api.Value{{Name: "out"}}}
	for name, want := range map[string][]int{"x": {0, 2, 3}, "y": {1, 3}, "a": {3}, "": {3}, "z": nil, "w": nil, "none": nil, "in": nil, "out": nil, "X": nil, "Neg": nil} {
		if l := Readers(g, name); !slices.Equal(l, want) {
			t.Errorf("P7.3: Readers of %q: %d, not %d", name, l, want)
		}
	}
	if l := Readers(api.Graph{}, ""); len(l) != 0 {
		t.Errorf("P7.3: Readers of no nodes: %d", l)
	}
	great := sized(1, 0, 1500, 0)
	if l := Readers(great, "v0"); len(l) != 1500 || l[0] != 0 || l[1499] != 1499 {
		t.Errorf("P7.3: of %d nodes, one beyond the limit among them, %d read", len(great.Nodes), len(l))
	}
}
