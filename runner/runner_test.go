package runner

import (
	"math"
	"slices"
	"strconv"
	"strings"
	"testing"

	"mandrel/api"
	"mandrel/graph"
	"mandrel/infer"
	"mandrel/load"
	"mandrel/pb"
	"mandrel/sem"
	"mandrel/spell"
)

// loaded is the plan of a graph of lines, told as a file.
func loaded(t *testing.T, lines string, mask int) api.Plan {
	t.Helper()
	return loadedGraph(t, spell.Graph(lines), mask)
}

func loadedGraph(t *testing.T, g api.Graph, mask int) api.Plan {
	t.Helper()
	s, e := pb.Encode(g)
	if e != api.OK {
		t.Fatalf("P5.3: %v: %d", g, e)
	}
	p, e := load.Load(s, mask)
	if e != api.OK {
		t.Fatalf("P23.1: %v with %d: %d", g, mask, e)
	}
	return p
}

// sizes are those that the document names, and some between.
func sizes() []int { return []int{1, 2, 3, 7, api.MaxElems - 1, api.MaxElems} }

// orders are picks of all kinds.
func orders() [][]int {
	return [][]int{nil, {}, {0}, {-1}, {1}, {5, 3, -1}, {math.MaxInt}, {math.MinInt}, {math.MinInt, math.MaxInt, 0, -2}, {9, 8, 7, 6, 5, 4, 3, 2, 1, 0, 1, 2, 3, 4, 5, 6, 7, 8, 9, 10, 11}}
}

// expectRuns runs a graph, told as a file, with each mask, each of the sizes and each of the orders. What comes out is spelt, or the word of an error.
func expectRuns(t *testing.T, lines, in, want string) {
	t.Helper()
	for mask := range 16 {
		p := loaded(t, lines, mask)
		for _, size := range sizes() {
			for _, picks := range orders() {
				got, e := Run(p, spell.Tensors(in), size, picks)
				if !isSpelt(got, e, want) {
					t.Fatalf("P24.2: %s\nof %s, with %d, by %d, picked %d: %v, %d, not %s", lines, in, mask, size, picks, got, e, want)
				}
			}
		}
	}
}

func isSpelt(got []api.Tensor, e api.Errno, want string) bool {
	if !strings.Contains(want, ":") {
		return spell.Word(e) == want && len(got) == 0
	}
	return e == api.OK && slices.EqualFunc(got, spell.Tensors(want), spell.Same)
}

func TestExample(t *testing.T) {
	expectRuns(t, "in x i 2\nz = Neg(y)\ny = Add(x, x)\nout z i 2", "i 2: 1 2", "i 2: -2 -4")
}

// Which of n steps is the next one: the picks go round, whatever there is to be picked.
func TestPicker(t *testing.T) {
	for _, c := range []struct {
		picks, n, want []int
	}{
		{nil, []int{3, 2, 1, 5}, []int{0, 0, 0, 0}},
		{[]int{}, []int{3, 2}, []int{0, 0}},
		{[]int{0}, []int{3, 2, 1}, []int{0, 0, 0}},
		{[]int{1}, []int{3, 2, 1, 2}, []int{1, 1, 0, 1}},
		{[]int{5, 3, -1}, []int{4, 4, 4, 4, 4, 4, 4}, []int{1, 3, 0, 1, 3, 0, 1}},
		{[]int{5, 3, -1}, []int{6, 3, 2, 1, 2, 3, 3}, []int{5, 0, 0, 0, 1, 0, 2}},
		{[]int{-1, -2, -3, -4, -5}, []int{3, 3, 3, 3, 3}, []int{0, 1, 2, 0, 1}},
		{[]int{0, 1, 2, 3, 4, 5, 6}, []int{3, 3, 3, 3}, []int{0, 1, 2, 0}},
		{[]int{math.MaxInt, math.MinInt}, []int{1, 1, 2, 2, 10, 10, math.MaxInt, math.MaxInt}, []int{0, 0, 1, 1, 7, 7, 0, 0}},
		{[]int{math.MaxInt - 1, math.MinInt + 1}, []int{10, 10, 2, 2}, []int{6, 6, 0, 0}},
	} {
		next := picker(c.picks)
		var got []int
		for _, n := range c.n {
			got = append(got, next(n))
		}
		if !slices.Equal(got, c.want) {
			t.Errorf("P24.1: %d of %d: %d, not %d", c.picks, c.n, got, c.want)
		}
	}
}

// Two that pick do so each for itself.
func TestPickersApart(t *testing.T) {
	picks := []int{1, 2, 3}
	a, b := picker(picks), picker(picks)
	if got := []int{a(9), a(9), b(9), a(9), b(9), a(9)}; !slices.Equal(got, []int{1, 2, 1, 3, 2, 1}) {
		t.Errorf("P24.1: %d", got)
	}
}

const two = "in x f 2 1\nin n l\nz = Mul(x, y)\ny = Cast(n); to=1\nout z f 2 1"

// A plan that may not be, inputs such as the graph does not take, sizes: each by itself, and together.
func TestRefused(t *testing.T) {
	good, in := loaded(t, two, api.PassAll), "f 2 1: 1 nan, l: -5"
	plans := map[string]api.Plan{"none": {}}
	for _, part := range strings.Fields("graph order values layout") {
		p := loaded(t, two, api.PassAll)
		switch part {
		case "graph":
			p.Graph.Nodes[0].Op = "What"
		case "order":
			p.Order = p.Order[1:]
		case "values":
			p.Values[0].Dims = []int{2}
		case "layout":
			p.Layout.Places[0].At += 4
		}
		plans[part] = p
	}
	wrong := []string{
		"", "f 2 1: 1 2", "f 2 1: 1 2, l: 5, l: 5", "l: 5, f 2 1: 1 2", "f 2 1: 1 2, i: 5", "i 2 1: 1 2, l: 5", "f 1 2: 1 2, l: 5", "f 2: 1 2, l: 5", "f 2 1 1: 1 2, l: 5", "f 2 1: 1 2, l 1: 5",
		"f 2 1: 1, l: 5", "f 2 1: 1 2 3, l: 5", "f 2 1: 1 2, l:", "f 2 1: 1 2, l: 5 6", "f 2 1: 1 2, 0: 5", "f 2 -1: 1 2, l: 5",
	}
	other := []int{0, -1, api.MaxElems + 1, math.MaxInt, math.MinInt}
	refuse := func(what string, p api.Plan, in []api.Tensor, size int) {
		t.Helper()
		for _, picks := range orders() {
			if got, e := Run(p, in, size, picks); e != api.ErrArg || len(got) != 0 {
				t.Errorf("P24.1: plan %s, %v by %d, picked %d: %v, %d", what, in, size, picks, got, e)
			}
		}
	}
	for _, text := range wrong {
		refuse("well", good, spell.Tensors(text), 1)
		refuse("well", good, spell.Tensors(text), 0)
		refuse("none", api.Plan{}, spell.Tensors(text), api.MaxElems)
		refuse("none", api.Plan{}, spell.Tensors(text), api.MaxElems+1)
	}
	noElement := []api.Tensor{{Type: api.Float, Dims: []int{2, 1}, Data: []int64{0, api.NaN + 1}}, spell.Tensor("l: 5")}
	refuse("well", good, noElement, 1)
	for _, size := range other {
		refuse("well", good, spell.Tensors(in), size)
	}
	for what, p := range plans {
		refuse(what, p, spell.Tensors(in), 1)
		refuse(what, p, spell.Tensors(in), 0)
		refuse(what, p, nil, 1)
	}
	expectRuns(t, two, in, "f 2 1: -5 nan")
}

// Inputs and initializers that are outputs, with nodes and without.
func TestOutputs(t *testing.T) {
	expectRuns(t, "in x i 2\nout x i 2", "i 2: 1 2", "i 2: 1 2")
	expectRuns(t, "init w b: 1\nout w b", "", "b: 1")
	expectRuns(t, "in x i 2\nin y l\ninit w f 3: 1 nan -0\ninit v i: 4\nout w f 3\nout x i 2", "i 2: 1 2, l: 9", "f 3: 1 nan -0, i 2: 1 2")
	expectRuns(t, "in x i 2\ninit w f: 1\nz = Neg(x)\ny = Abs(w)\nout w f\nout z i 2\nout x i 2\nout y f", "i 2: 1 2", "f: 1, i 2: -1 -2, i 2: 1 2, f: 1")
	expectRuns(t, "c = Constant(); value=i 3: 1 2 3\nz = Neg(c)\nout c i 3\nout z i 3", "", "i 3: 1 2 3, i 3: -1 -2 -3")
	expectRuns(t, "in x i 2\ny = Neg(x)\nz = Abs(y)\nout x i 2", "i 2: 1 2", "i 2: 1 2")
	// Nobody reads one of the inputs.
	expectRuns(t, "in x i 2\nin y f 5\nz = Neg(x)\nout z i 2", "i 2: 1 2, f 5: 1 2 3 4 5", "i 2: -1 -2")
}

// Nodes that err, one and several of them, with nodes behind them: the first one in the order of work is told.
func TestErrors(t *testing.T) {
	const ends = "in x i 3\ninit w i 3: 5 0 7\ninit l i 3: 0 1 9\nout z i 3\n"
	for _, c := range []struct{ nodes, in, want string }{
		{"z = Div(w, x)", "i 3: 1 2 0", "divide"},
		{"z = Div(w, x)", "i 3: 0 0 0", "divide"},
		{"z = Div(w, x)", "i 3: 1 2 -3", "i 3: 5 0 -2"},
		{"z = Gather(w, x)", "i 3: 0 3 1", "index"},
		{"z = Gather(w, x)", "i 3: -4 1 3", "index"},
		{"z = Gather(w, x)", "i 3: 0 -3 1", "i 3: 5 5 0"},
		{"z = Neg(x)\nd = Div(x, w)", "i 3: 1 2 3", "divide"},
		{"z = Neg(x)\ni = Gather(x, l)\nj = Neg(i)\nk = Add(j, z)", "i 3: 1 2 3", "index"},
		{"z = Add(d, e)\nd = Div(w, x)\ne = Neg(d)", "i 3: 1 0 3", "divide"},
		{"z = Add(d, i)\nd = Div(w, x)\ni = Gather(w, x)", "i 3: 0 1 5", "divide"},
		{"z = Add(d, i)\ni = Gather(w, x)\nd = Div(w, x)", "i 3: 0 1 5", "index"},
		{"z = Add(d, i)\ni = Gather(w, x)\nd = Div(w, x)", "i 3: 0 1 2", "divide"},
		{"z = Add(d, i)\nd = Div(w, x)\ni = Gather(w, x)", "i 3: 1 3 1", "index"},
		{"z = Neg(x)\ni = Gather(x, l)\nd = Div(x, w)", "i 3: 1 2 3", "index"},
		{"z = Neg(x)\nd = Div(x, w)\ni = Gather(x, l)", "i 3: 1 2 3", "divide"},
		{"i = Gather(x, d)\nd = Div(w, w)\nz = Gather(x, l)", "i 3: 1 2 3", "divide"},
		{"z = Gather(x, l)\ni = Gather(x, d)\nd = Div(w, w)", "i 3: 1 2 3", "index"},
	} {
		expectRuns(t, ends+c.nodes, c.in, c.want)
	}
}

// A plan need not come from a file: nodes may stand in any order, values may lie anywhere where they may.
func TestOtherPlans(t *testing.T) {
	g := spell.Graph("in x i 2\ne = Neg(c)\nd = Abs(x)\na = Add(x, x)\nc = Neg(a)\nout e i 2\nout d i 2")
	p := api.Plan{Graph: g}
	p.Order, _ = graph.Order(g)
	p.Values, _ = infer.All(g)
	for _, text := range []string{"24 | d 8 8, a 0 8, c 0 8, e 16 8 | c a", "32 | d 24 8, a 16 8, c 8 8, e 0 8 |", "16 | d 8 8, a 0 8, c 0 8, e 0 8 | e c, c a"} {
		p.Layout = spell.Layout(text)
		for _, picks := range orders() {
			if got, e := Run(p, spell.Tensors("i 2: 3 -4"), 1, picks); !isSpelt(got, e, "i 2: 6 -8, i 2: 3 4") {
				t.Errorf("P24.1: %s, picked %d: %v, %d", text, picks, got, e)
			}
		}
	}
	p.Layout = spell.Layout("8 | d 0 8, a 0 8, c 0 8, e 0 8 | e c, c a")
	if got, e := Run(p, spell.Tensors("i 2: 3 -4"), 1, nil); e != api.ErrArg || len(got) != 0 {
		t.Errorf("P24.1: two that meet: %v, %d", got, e)
	}
}

// As many nodes as may be, and as many elements.
func TestGreatRuns(t *testing.T) {
	lines := "in v0 i 3\nout v1000 i 3\n"
	for i := api.MaxNodes; i > 0; i-- {
		lines += "v" + strconv.Itoa(i) + " = " + []string{"Neg(v", "Add(v0, v"}[i%2] + strconv.Itoa(i-1) + ")\n"
	}
	x := spell.Tensors("i 3: 1 -2 7")
	want, _ := sem.Eval(spell.Graph(lines), x)
	many := api.Tensor{Type: api.Int64, Dims: []int{65536}, Data: make([]int64, 65536)}
	for i := range many.Data {
		many.Data[i] = int64(i) << 40
	}
	const wide = "in x l 65536\ny = Neg(x)\nz = Abs(y)\nr = Add(z, x)\nout r l 65536"
	wantWide, _ := sem.Eval(spell.Graph(wide), []api.Tensor{many})
	for _, mask := range []int{0, api.PassAll} {
		p, q := loaded(t, lines, mask), loaded(t, wide, mask)
		for _, picks := range [][]int{nil, {7, -3, 11}} {
			if got, e := Run(p, x, 1, picks); e != api.OK || !slices.EqualFunc(got, want, spell.Same) {
				t.Errorf("P24.2: 1000 nodes: %v, %d, not %v", got, e, want)
			}
			for _, size := range []int{65536, 65535, 1000} {
				if got, e := Run(q, []api.Tensor{many}, size, picks); e != api.OK || !slices.EqualFunc(got, wantWide, spell.Same) {
					t.Errorf("P24.2: 65536 elements by %d: %d", size, e)
				}
			}
		}
	}
}
