package load

import (
	"math"
	"slices"
	"strconv"
	"strings"
	"testing"

	"mandrel/api"
	"mandrel/arena"
	"mandrel/fit"
	"mandrel/graph"
	"mandrel/infer"
	"mandrel/kept"
	"mandrel/spell"
)

const (
	// some's order of work is 1 0 2 3.
	some   = "in x i 2\ninit w f: 5\nc = Neg(a)\na = Add(x, x)\nd = Abs(x)\ne = Neg(c)\nout e i 2\nout d i 2\n"
	order  = "1 0 2 3"
	values = "x i 2, w f, a i 2, c i 2, d i 2, e i 2"
	layout = "24 | a 0 8, c 0 8, d 8 8, e 16 8 | c a"
)

// plan is one of texts: a graph, an order of work, values, a layout.
func plan(lines, order, values, layout string) api.Plan {
	p := api.Plan{Graph: spell.Graph(lines), Layout: spell.Layout(layout)}
	for _, word := range strings.Fields(order) {
		i, err := strconv.Atoi(word)
		if err != nil {
			panic(err)
		}
		p.Order = append(p.Order, i)
	}
	for _, text := range strings.Split(values, ",") {
		if strings.TrimSpace(text) != "" {
			p.Values = append(p.Values, spell.Value(strings.TrimSpace(text)))
		}
	}
	return p
}

func expectCheck(t *testing.T, p api.Plan, want api.Errno) {
	t.Helper()
	if e := Check(p); e != want {
		t.Errorf("P23.2: %v: %d, not %d", p, e, want)
	}
}

func TestCheck(t *testing.T) {
	expectCheck(t, plan(some, order, values, layout), api.OK)
	expectCheck(t, plan(some, order, values, "32 | a 0 8, c 8 8, d 16 8, e 24 8 |"), api.OK)
	expectCheck(t, plan("in x i\nout x i", "", "x i", "0 | |"), api.OK)
	expectCheck(t, api.Plan{}, api.ErrArg)
	// A list that is empty may be there, or not.
	p := plan("in x i\nc = Constant(); value=l 2: 1 2\nout x i", "0", "x i, c l 2", "16 | c 0 16 |")
	expectCheck(t, p, api.OK)
	p.Graph.Inits, p.Graph.Nodes[0].In, p.Values[0].Dims, p.Layout.Pairs = []api.Named{}, []string{}, []int{}, []api.Pair{}
	expectCheck(t, p, api.OK)
	p.Values[0].Dims, p.Graph.In[0].Dims, p.Graph.Out[0].Dims = nil, []int{}, []int{}
	expectCheck(t, p, api.OK)
}

// Another graph beside the same order, values and layout.
func TestCheckGraph(t *testing.T) {
	for lines, want := range map[string]api.Errno{
		// It has no other values, and no other order.
		strings.Replace(some, "Abs", "Neg", 1):                       api.OK,
		strings.Replace(some, "w f: 5", "w f: 6", 1):                 api.OK,
		strings.Replace(some, "out e i 2\n", "", 1):                  api.OK,
		strings.Replace(some, "Add(x, x)", "Add(x, x); then=Neg", 1): api.OK,
		// It is none.
		strings.Replace(some, "Abs", "What", 1):                api.ErrArg,
		strings.Replace(some, "Abs", "Not", 1):                 api.ErrArg,
		strings.Replace(some, "Abs(x)", "Abs(z)", 1):           api.ErrArg,
		strings.Replace(some, "Add(x, x)", "Add(x, e)", 1):     api.ErrArg,
		strings.Replace(some, "out e i 2", "out e i 3", 1):     api.ErrArg,
		strings.Replace(some, "out e i 2", "out e l 2", 1):     api.ErrArg,
		strings.Replace(some, "out e i 2\nout d i 2\n", "", 1): api.ErrArg,
		"": api.ErrArg,
		// It has other values.
		some + "in y i":                                                   api.ErrArg,
		some + "init y i: 1":                                              api.ErrArg,
		some + "f = Neg(x)":                                               api.ErrArg,
		strings.ReplaceAll(some, "i 2", "l 2"):                            api.ErrArg,
		strings.ReplaceAll(some, "i 2", "i 1 2"):                          api.ErrArg,
		strings.ReplaceAll(some, "i 2", "i 3"):                            api.ErrArg,
		strings.Replace(some, "w f", "w l", 1):                            api.ErrArg,
		strings.Replace(some, "w f", "v f", 1):                            api.ErrArg,
		strings.NewReplacer("d =", "g =", "out d", "out g").Replace(some): api.ErrArg,
		// It has another order.
		strings.Replace(some, "c = Neg(a)\na = Add(x, x)", "a = Add(x, x)\nc = Neg(a)", 1): api.ErrArg,
		strings.Replace(some, "c = Neg(a)", "c = Neg(x)", 1):                               api.ErrArg,
		strings.Replace(some, "d = Abs(x)\ne = Neg(c)", "e = Neg(c)\nd = Abs(x)", 1):       api.ErrArg,
		// The layout does not fit it.
		some + "out a i 2":                                   api.ErrArg,
		some + "out c i 2":                                   api.OK,
		strings.Replace(some, "Abs(x)", "Abs(a)", 1):         api.ErrArg,
		strings.Replace(some, "Neg(a)", "Add(a, x)", 1):      api.ErrArg,
		strings.Replace(some, "d = Abs(x)", "d = Abs(c)", 1): api.OK,
	} {
		expectCheck(t, plan(lines, order, values, layout), want)
	}
	for _, g := range kept.Wrong() {
		expectCheck(t, api.Plan{Graph: g}, api.ErrArg)
	}
	// Nodes may stand in any order, with the order of work that they have.
	turned := "in x i 2\ninit w f: 5\ne = Neg(c)\nd = Abs(x)\na = Add(x, x)\nc = Neg(a)\nout e i 2\nout d i 2\n"
	expectCheck(t, plan(turned, "1 2 3 0", "x i 2, w f, d i 2, a i 2, c i 2, e i 2", "24 | d 8 8, a 0 8, c 0 8, e 16 8 | c a"), api.OK)
}

func TestCheckOrder(t *testing.T) {
	for _, other := range []string{"", "1", "1 0 2", "1 0 2 3 3", "1 0 2 3 4", "0 1 2 3", "1 0 3 2", "1 2 0 3", "2 1 0 3", "1 0 2 2", "1 0 2 4", "1 0 2 -3", "1 0 2 9223372036854775807", "-9223372036854775808 0 2 3", "2 1 4 5"} {
		expectCheck(t, plan(some, other, values, layout), api.ErrArg)
	}
	expectCheck(t, plan("in x i\nout x i", "0", "x i", "0 | |"), api.ErrArg)
}

func TestCheckValues(t *testing.T) {
	for _, other := range []string{
		"", "x i 2", "x i 2, w f, a i 2, c i 2, d i 2", "w f, a i 2, c i 2, d i 2, e i 2", "a i 2, c i 2, d i 2, e i 2", values + ", e i 2", values + ", y i",
		"w f, x i 2, a i 2, c i 2, d i 2, e i 2", "x i 2, w f, c i 2, a i 2, d i 2, e i 2", "x i 2, w f, a i 2, c i 2, e i 2, d i 2",
		"y i 2, w f, a i 2, c i 2, d i 2, e i 2", "x i 2, w f, a i 2, c i 2, d i 2, g i 2", "x i 2, w f, a i 2, c i 2, d i 2, d i 2",
		"x l 2, w f, a i 2, c i 2, d i 2, e i 2", "x i 2, w i, a i 2, c i 2, d i 2, e i 2", "x i 2, w f, a i 2, c i 2, d i 2, e f 2", "x i 2, w f, a i 2, c i 2, d i 2, e 0 2",
		"x i 1 2, w f, a i 2, c i 2, d i 2, e i 2", "x i 2, w f 1, a i 2, c i 2, d i 2, e i 2", "x i 2, w f, a i 2, c i 2, d i 2, e i", "x i 2, w f, a i 2, c i 2, d i 2, e i 3", "x i 2, w f, a i 2, c i 2, d i -2, e i 2", "x i 2, w f, a i 2, c i 2, d i 2, e i 2 1",
	} {
		expectCheck(t, plan(some, order, other, layout), api.ErrArg)
	}
	expectCheck(t, plan("in x i\nout x i", "", "", "0 | |"), api.ErrArg)
}

// Each condition on a layout is broken, and nothing else.
func TestCheckLayout(t *testing.T) {
	for _, other := range []string{
		"0 | |", "24 | a 0 8, c 0 8, d 8 8 | c a", "24 | a 0 8, c 0 8, d 8 8, e 16 8, e 16 8 | c a", "24 | c 0 8, a 0 8, d 8 8, e 16 8 | c a",
		"24 | a 0 8, c 0 8, d 8 8, g 16 8 | c a", "24 | a 0 8, c 0 8, d 8 8, e 16 4 | c a", "24 | a 0 8, c 0 8, d 8 8, e 16 0 | c a", "32 | a 0 8, c 0 8, d 8 8, e 16 16 | c a",
		"24 | a 0 8, c 0 8, d 8 8, e 20 8 | c a", "32 | a 0 8, c 0 8, d 8 8, e 20 8 | c a", "24 | a 0 8, c 0 8, d 8 8, e 24 8 | c a", "24 | a -8 8, c -8 8, d 8 8, e 16 8 | c a",
		"40 | a 0 8, c 0 8, d 8 8, e 16 8 | c a", "20 | a 0 8, c 0 8, d 8 8, e 0 8 | c a", "28 | a 0 8, c 0 8, d 8 8, e 16 8 | c a", "16 | a 0 8, c 0 8, d 8 8, e 16 8 | c a", "-24 | a 0 8, c 0 8, d 8 8, e 16 8 | c a",
		"24 | a 0 8, c 0 8, d 8 8, e 16 8 |", "24 | a 0 8, c 0 8, d 8 8, e 16 8 | c a, c a", "24 | a 0 8, c 0 8, d 8 8, e 16 8 | a c", "24 | a 0 8, c 0 8, d 8 8, e 16 8 | c a, e c", "24 | a 0 8, c 0 8, d 8 8, e 16 8 | c a, d x", "24 | a 0 8, c 0 8, d 8 8, e 16 8 | c z", "32 | a 0 8, c 24 8, d 8 8, e 16 8 | c a",
		"24 | a 0 8, c 8 8, d 8 8, e 16 8 |", "24 | a 0 8, c 0 8, d 8 8, e 8 8 | c a", "16 | a 0 8, c 0 8, d 0 8, e 8 8 | c a",
	} {
		p := plan(some, order, values, other)
		expectCheck(t, p, api.ErrArg)
		if len(fit.Broken(p.Graph, p.Layout)) == 0 {
			t.Errorf("%s fits", other)
		}
	}
	p := plan(some, order, values, layout)
	for _, number := range []int{math.MaxInt, math.MinInt, math.MaxInt - 7} {
		q := p
		q.Layout.Size = number
		expectCheck(t, q, api.ErrArg)
		q = p
		q.Layout.Places = slices.Clone(p.Layout.Places)
		q.Layout.Places[3].At = number
		expectCheck(t, q, api.ErrArg)
	}
}

// As many nodes as may be, and one more.
func TestCheckOfGreatPlans(t *testing.T) {
	g := spell.Graph("in v0 i 2\nout v1000 i 2")
	for i := api.MaxNodes; i > 0; i-- {
		g.Nodes = append(g.Nodes, spell.Node("v"+strconv.Itoa(i)+" = Neg(v"+strconv.Itoa(i-1)+")"))
	}
	p := api.Plan{Graph: g}
	p.Order, _ = graph.Order(g)
	p.Values, _ = infer.All(g)
	p.Layout, _ = arena.Plan(g)
	expectCheck(t, p, api.OK)
	q := p
	q.Layout = fit.Wide(g)
	expectCheck(t, q, api.OK)
	q.Graph.Nodes = append(slices.Clone(g.Nodes), spell.Node("z = Neg(v0)"))
	expectCheck(t, q, api.ErrArg)
	q = p
	q.Order = slices.Clone(p.Order)
	q.Order[0]++
	expectCheck(t, q, api.ErrArg)
	q = p
	q.Values = slices.Clone(p.Values)
	q.Values[1000].Dims = []int{3}
	expectCheck(t, q, api.ErrArg)
	q = p
	q.Layout.Pairs = p.Layout.Pairs[:998]
	expectCheck(t, q, api.ErrArg)
}
