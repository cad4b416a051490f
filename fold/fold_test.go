package fold

import (
	"math/rand"
	"strconv"
	"testing"

	"mandrel/api"
	"mandrel/kept"
	"mandrel/sem"
	"mandrel/spell"
)

func expect(t *testing.T, promise string, pass kept.Pass, changes []kept.Change) {
	t.Helper()
	r := rand.New(rand.NewSource(15))
	for _, m := range kept.Misses(pass, r.Intn, changes) {
		t.Errorf("%s, P15.3: %+v", promise, m)
	}
}

func TestExample(t *testing.T) {
	const ends = "in x i 2\nout y i 2"
	const done = "init w i 2: 5 6\ninit v i 2: -5 -6\ny = Add(v, x)"
	expect(t, "P15.1", Fold, []kept.Change{
		{ends, "init w i 2: 5 6\ny = Add(v, x)\nv = Neg(w)", done},
		{ends, "init w i 2: 5 6\nv = Neg(w)\ny = Add(v, x)", done},
	})
	expect(t, "P15.2", Dead, []kept.Change{{ends, done, "init v i 2: -5 -6\ny = Add(v, x)"}})
}

func TestFold(t *testing.T) {
	const ends = "in x i\nout z i"
	expect(t, "P15.1", Fold, []kept.Change{
		// Chains, whose values are initializers one behind the other.
		{ends, "init w i: 5\na = Neg(w)\nb = Add(a, w)\nc = Sub(b, a)\nz = Add(c, x)", "init w i: 5\ninit a i: -5\ninit b i: 0\ninit c i: 5\nz = Add(c, x)"},
		{ends, "z = Add(c, x)\nc = Neg(b)\nb = Neg(a)\na = Neg(w)\ninit w i: 5", "init w i: 5\ninit a i: -5\ninit b i: 5\ninit c i: -5\nz = Add(c, x)"},
		// The initializers that were there stay ahead, in their order, read or not.
		{ends, "init w i: 5\ninit v f: 1\ninit u i: 7\nb = Neg(u)\na = Neg(w)\nz = Add(a, x)", "init w i: 5\ninit v f: 1\ninit u i: 7\ninit b i: -7\ninit a i: -5\nz = Add(a, x)"},
		{ends, "init w i: 5\nb = Neg(a)\nc = Abs(w)\na = Neg(w)\nz = Add(b, x)", "init w i: 5\ninit c i: 5\ninit a i: -5\ninit b i: 5\nz = Add(b, x)"},
		// A Constant, with what follows in it.
		{ends, "c = Constant(); value=i: 5\nz = Add(c, x)", "init c i: 5\nz = Add(c, x)"},
		{ends, "z = Add(d, x)\nd = Mul(c, c)\nc = Constant(); value=i: 5; then=Neg,Identity", "init c i: -5\ninit d i: 25\nz = Add(d, x)"},
		{"out z f 2", "z = Constant(); value=f 2: 1.5 nan", "init z f 2: 1.5 nan"},
		{"out z f 2", "z = Constant(); then=Neg; value=f 2: 1.5 -0", "init z f 2: -1.5 0"},
		// What follows in a node goes with it.
		{ends, "init w i: 5\na = Add(w, w); then=Neg\nz = Add(a, x)", "init w i: 5\ninit a i: -10\nz = Add(a, x)"},
		// One initializer twice, and more often.
		{ends, "init w i: 5\na = Sub(w, w)\nz = Add(a, x)", "init w i: 5\ninit a i: 0\nz = Add(a, x)"},
		{"out z i 3", "init w i 1: 5\nz = Concat(w, w, w); axis=0", "init w i 1: 5\ninit z i 3: 5 5 5"},
		// A value that is an output, or that nobody reads.
		{ends + "\nout a i", "init w i: 5\na = Neg(w)\nz = Add(a, x)", "init w i: 5\ninit a i: -5\nz = Add(a, x)"},
		{"out z i", "init w i: 5\nz = Neg(w)", "init w i: 5\ninit z i: -5"},
		{"in x i\nout x i", "init w i: 5\na = Neg(w)", "init w i: 5\ninit a i: -5"},
		// A node that reads an input stays, and so do those behind it.
		{ends, "init w i: 5\na = Add(w, x)\nb = Neg(a)\nz = Add(b, w)", "init w i: 5\na = Add(w, x)\nb = Neg(a)\nz = Add(b, w)"},
		{ends, "init w i: 5\nz = Add(b, w)\nb = Neg(a)\na = Add(x, w)", "init w i: 5\na = Add(x, w)\nb = Neg(a)\nz = Add(b, w)"},
		// Without nodes, without initializers, without inputs.
		{"in x i\nout x i", "", ""},
		{"in x i\nout x i", "init w i: 5", "init w i: 5"},
		{"out w i", "init w i: 5", "init w i: 5"},
		{ends, "z = Neg(x)", "z = Neg(x)"},
		{ends, "z = Neg(y); then=Abs\ny = Abs(x)", "y = Abs(x)\nz = Neg(y); then=Abs"},
		// Layers, types and dims of all kinds.
		{"out z f 1 1", "init w f 1 1 2 2: 1 1 1 1\nc = Conv(w, w)\nr = Reshape(c); shape=1 1\nm = MatMul(r, r); then=Sqrt\nz = ReduceSum(m)", "init w f 1 1 2 2: 1 1 1 1\ninit c f 1 1 1 1: 4\ninit r f 1 1: 4\ninit m f 1 1: 4\ninit z f 1 1: 4"},
		{"out z b 2", "init w f 2: 1 0\nz = Less(w, w); then=Not", "init w f 2: 1 0\ninit z b 2: 1 1"},
		{"out z l", "init w f 2: 1 3\nz = ArgMax(w); keepdims=0", "init w f 2: 1 3\ninit z l: 1"},
		{"out z f", "init w f: 1\ninit o f: 0\nz = Div(w, o)", "init w f: 1\ninit o f: 0\ninit z f: inf"},
		{"out z i", "init w i: 7\ninit o i: 2\nz = Div(w, o)", "init w i: 7\ninit o i: 2\ninit z i: 3"},
		{"out z i 2", "init w i 3: 5 6 7\ninit i l 2: 2 -3\nz = Gather(w, i)", "init w i 3: 5 6 7\ninit i l 2: 2 -3\ninit z i 2: 7 5"},
	})
}

// Nodes that can't be done ahead since they err, and nodes that read their values, which stay; those beside them go.
func TestFoldOfErrors(t *testing.T) {
	const ends = "in x i\nout z i"
	const inits = "init w i: 5\ninit o i: 0\ninit l i 1: 8\n"
	expect(t, "P15.1", Fold, []kept.Change{
		{ends, inits + "z = Div(w, o)", inits + "z = Div(w, o)"},
		{ends, inits + "z = Gather(l, w)", inits + "z = Gather(l, w)"},
		{ends, inits + "z = Gather(l, o)", inits + "init z i: 8"},
		{ends, inits + "z = Div(o, w)", inits + "init z i: 0"},
		{ends, inits + "d = Div(w, o); then=Neg\nz = Neg(x)", inits + "d = Div(w, o); then=Neg\nz = Neg(x)"},
		{ends, inits + "d = Div(w, o)\nz = Neg(d)", inits + "d = Div(w, o)\nz = Neg(d)"},
		{ends, inits + "d = Gather(l, w)\ne = Add(d, w)\nz = Sub(e, e)", inits + "d = Gather(l, w)\ne = Add(d, w)\nz = Sub(e, e)"},
		{ends, inits + "e = Neg(d)\nn = Neg(w)\nd = Div(n, o)\nm = Neg(n)\nz = Add(m, e)", inits + "init n i: -5\ninit m i: 5\nd = Div(n, o)\ne = Neg(d)\nz = Add(m, e)"},
		{ends, inits + "p = Sub(w, w)\nd = Div(w, p)\ni = Gather(l, w)\nz = Neg(x)", inits + "init p i: 0\nd = Div(w, p)\ni = Gather(l, w)\nz = Neg(x)"},
		{ends + "\nout d l", "init w l: 5\ninit o l: 0\nd = Div(w, o)\nz = Neg(x)", "init w l: 5\ninit o l: 0\nd = Div(w, o)\nz = Neg(x)"},
	})
}

func TestDead(t *testing.T) {
	const ends = "in x i\nout z i"
	expect(t, "P15.2", Dead, []kept.Change{
		// What nobody reads goes, and what only that reads.
		{ends, "z = Neg(x)\na = Neg(x)", "z = Neg(x)"},
		{ends, "c = Neg(b)\nb = Add(a, x)\na = Neg(x)\nz = Neg(x)", "z = Neg(x)"},
		{ends, "a = Neg(x)\nb = Neg(a)\nz = Abs(a)", "a = Neg(x)\nz = Abs(a)"},
		{ends, "z = Abs(b)\nb = Neg(a)\na = Neg(x)", "a = Neg(x)\nb = Neg(a)\nz = Abs(b)"},
		{ends, "a = Neg(x)\nz = Sub(a, a)\nb = Sub(a, z)", "a = Neg(x)\nz = Sub(a, a)"},
		{ends, "c = Constant(); value=i: 5\nd = Constant(); value=i: 5\nz = Add(x, d)", "d = Constant(); value=i: 5\nz = Add(x, d)"},
		// An output that others are made of, or that nobody is.
		{ends + "\nout a i", "a = Neg(x)\nz = Neg(a)\nb = Neg(z)", "a = Neg(x)\nz = Neg(a)"},
		{"in x i\nout x i", "a = Neg(x)\nb = Neg(a)", ""},
		// Initializers that are outputs, that nodes that stay read, that others read, that nobody reads.
		{ends, "init w i: 5\ninit v i: 6\nz = Add(x, v)", "init v i: 6\nz = Add(x, v)"},
		{ends + "\nout w i", "init w i: 5\ninit v i: 6\nz = Neg(x)", "init w i: 5\nz = Neg(x)"},
		{ends, "init w i: 5\ninit v i: 6\na = Neg(w)\nz = Mul(v, x)", "init v i: 6\nz = Mul(v, x)"},
		{ends, "init w i: 5\ninit v i: 6\ninit u i: 7\ninit t i: 8\nz = Mul(t, a)\na = Mul(w, x)\nb = Mul(u, v)", "init w i: 5\ninit t i: 8\na = Mul(w, x)\nz = Mul(t, a)"},
		{"out w i", "init w i: 5\ninit v i: 6", "init w i: 5"},
		// Without nodes, without initializers, without inputs.
		{"in x i\nout x i", "", ""},
		{"in x i\nout x i", "init w i: 5", ""},
		{"out z i", "init w i: 5\nz = Neg(w)", "init w i: 5\nz = Neg(w)"},
		{"out z i", "z = Constant(); value=i: 5; then=Neg", "z = Constant(); value=i: 5; then=Neg"},
		{"in x i\nin y f 2\nout y f 2", "z = Neg(x)", ""},
	})
}

// Nodes that may err stay, read or not, and what they are made of.
func TestDeadOfErrors(t *testing.T) {
	const ends = "in x i\nin y l 2\nin f f\nout z i"
	expect(t, "P15.2", Dead, []kept.Change{
		{ends, "z = Neg(x)\nd = Div(x, x)", "z = Neg(x)\nd = Div(x, x)"},
		{ends, "z = Neg(x)\nd = Div(y, y)", "z = Neg(x)\nd = Div(y, y)"},
		{ends, "z = Neg(x)\nd = Div(f, f)", "z = Neg(x)"},
		{ends, "z = Neg(x)\nd = Gather(y, x)", "z = Neg(x)\nd = Gather(y, x)"},
		{ends, "z = Neg(x)\nd = Div(x, x); then=Neg,Abs\ne = Div(f, f); then=Neg\nn = Neg(d)", "z = Neg(x)\nd = Div(x, x); then=Neg,Abs"},
		// Also where nothing can go wrong.
		{ends, "init w i: 5\nz = Neg(x)\nd = Div(w, w)", "init w i: 5\nz = Neg(x)\nd = Div(w, w)"},
		{ends, "init w i: 0\nz = Neg(x)\nd = Gather(y, w)", "init w i: 0\nz = Neg(x)\nd = Gather(y, w)"},
		// Of several types beside one another.
		{ends, "a = Div(f, f)\nb = Div(x, x)\nz = Neg(x)\nc = Div(y, y)\nd = Div(a, f)", "b = Div(x, x)\nz = Neg(x)\nc = Div(y, y)"},
		{ends, "c = Div(b, b)\nb = Cast(a); to=7\na = Div(f, f)\nz = Neg(x)", "a = Div(f, f)\nb = Cast(a); to=7\nc = Div(b, b)\nz = Neg(x)"},
		{ends, "c = Div(b, b)\nb = Cast(a); to=1\na = Div(x, x)\nz = Neg(x)", "a = Div(x, x)\nz = Neg(x)"},
		// What they read stays, nodes and initializers.
		{ends, "init w i: 5\ninit v i: 5\nd = Div(a, w)\na = Neg(b)\nb = Neg(x)\nc = Neg(b)\ne = Add(d, v)\nz = Neg(x)", "init w i: 5\nb = Neg(x)\na = Neg(b)\nd = Div(a, w)\nz = Neg(x)"},
		{ends, "init w i: 0\ni = Neg(w)\nj = Neg(w)\nd = Gather(y, i)\nz = Neg(x)", "init w i: 0\ni = Neg(w)\nd = Gather(y, i)\nz = Neg(x)"},
		{ends, "d = Div(x, x)\ne = Div(d, x)\ng = Gather(y, e)\nh = Neg(g)\nz = Neg(x)", "d = Div(x, x)\ne = Div(d, x)\ng = Gather(y, e)\nz = Neg(x)"},
	})
}

// Of several errors the first one in the order of work stays the first one: of nodes that can be done ahead, and of others.
func TestFirstError(t *testing.T) {
	const ends = "in x i\ninit w i: 5\ninit o i: 0\ninit l i 1: 8\nout z i\n"
	for _, c := range []struct{ nodes, ofNought, ofOne string }{
		{"d = Div(w, x)\ni = Gather(l, w)\nz = Neg(x)", "divide", "index"},
		{"i = Gather(l, w)\nd = Div(w, x)\nz = Neg(x)", "index", "index"},
		{"d = Div(w, o)\ni = Gather(l, x)\nz = Neg(x)", "divide", "divide"},
		{"i = Gather(l, x)\nd = Div(w, o)\nz = Neg(x)", "divide", "index"},
		{"i = Gather(l, y)\nd = Div(w, x)\ny = Neg(w)\nz = Neg(x)", "divide", "index"},
		{"i = Gather(l, y)\ny = Neg(w)\nd = Div(w, x)\nz = Neg(x)", "index", "index"},
		{"i = Gather(l, y)\ny = Abs(w)\nd = Div(w, o)\nz = Neg(d)", "index", "index"},
		{"z = Neg(d)\nd = Div(y, o)\ni = Gather(l, x)\ny = Neg(w)", "divide", "index"},
		{"z = Neg(d)\nd = Div(w, x)", "divide", ""},
	} {
		g := spell.Graph(ends + c.nodes)
		for in, want := range map[string]string{"i: 0": c.ofNought, "i: 1": c.ofOne} {
			for name, pass := range map[string]kept.Pass{"Fold": Fold, "Dead": Dead} {
				h, _ := pass(g)
				if _, e := sem.Eval(h, spell.Tensors(in)); spell.Word(e) != want {
					t.Errorf("P15.3: %s of %s\nof %s: %q, not %q", name, c.nodes, in, spell.Word(e), want)
				}
			}
		}
	}
}

// Names of the graph and of the nodes stay, and attributes as they stand.
func TestAllElseStays(t *testing.T) {
	g := spell.Graph("in x f 2\ninit w f 2: 1 2\nz = Slice(y); starts=0; then=Neg; ends=1\ny = Add(x, v)\nv = Neg(w)\nu = Neg(x)\nout z f 1")
	g.Name = "graph"
	for i := range g.Nodes {
		g.Nodes[i].Name = "node " + strconv.Itoa(i)
	}
	g.Nodes[0].Attrs[0].S = "counts for nothing"
	want := g
	want.Nodes = []api.Node{g.Nodes[1], g.Nodes[0], g.Nodes[3]}
	want.Inits = append([]api.Named{}, g.Inits[0], api.Named{Name: "v", T: spell.Tensor("f 2: -1 -2")})
	if got, e := Fold(g); e != api.OK || !spell.SameGraphs(got, want) {
		t.Errorf("P15.1: %v, %d, not %v", got, e, want)
	}
	want.Nodes = []api.Node{g.Nodes[2], g.Nodes[1], g.Nodes[0]}
	want.Inits = g.Inits
	if got, e := Dead(g); e != api.OK || !spell.SameGraphs(got, want) {
		t.Errorf("P15.2: %v, %d, not %v", got, e, want)
	}
}

func TestWrongGraphs(t *testing.T) {
	for name, pass := range map[string]kept.Pass{"P15.1: Fold": Fold, "P15.2: Dead": Dead} {
		for _, text := range kept.NotRefused(pass) {
			t.Errorf("%s does not refuse as infer.All does:\n%s", name, text)
		}
	}
}

// As many nodes, and values, as may be, each of the one that stands behind it.
func TestGreatGraphs(t *testing.T) {
	g := spell.Graph("in x i\ninit v0 i: 5\nout z i\nz = Add(v999, x)")
	for i := 999; i > 0; i-- {
		g.Nodes = append(g.Nodes, api.Node{Op: "Add", In: []string{"v" + strconv.Itoa(i-1), "v0"}, Out: "v" + strconv.Itoa(i)})
	}
	h, e := Fold(g)
	if e != api.OK || len(h.Nodes) != 1 || len(h.Inits) != 1000 || h.Inits[999].Name != "v999" || h.Inits[999].T.Data[0] != 5000 {
		t.Fatalf("P15.1: 1000 nodes: %d nodes, %d initializers, %d", len(h.Nodes), len(h.Inits), e)
	}
	if d, e := Dead(h); e != api.OK || len(d.Nodes) != 1 || len(d.Inits) != 1 || d.Inits[0].Name != "v999" {
		t.Errorf("P15.2: 1000 initializers: %d nodes, %d initializers, %d", len(d.Nodes), len(d.Inits), e)
	}
	if d, e := Dead(g); e != api.OK || len(d.Nodes) != 1000 || len(d.Inits) != 1 || d.Nodes[999].Out != "z" || d.Nodes[0].Out != "v1" {
		t.Errorf("P15.2: 1000 nodes: %d nodes, %d initializers, %d", len(d.Nodes), len(d.Inits), e)
	}
	for _, limit := range []kept.Pass{Fold, Dead} {
		more := g
		more.Nodes = append(more.Nodes[:1000:1000], spell.Node("more = Neg(x)"))
		if h, e := limit(more); e != api.ErrLimit || len(h.Nodes) != 0 {
			t.Errorf("P15.1, P15.2: 1001 nodes: %d nodes, %d", len(h.Nodes), e)
		}
	}
}
