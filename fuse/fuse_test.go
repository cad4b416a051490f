package fuse

import (
	"math/rand"
	"strconv"
	"strings"
	"testing"

	"mandrel/api"
	"mandrel/kept"
	"mandrel/sem"
	"mandrel/spell"
)

func expect(t *testing.T, changes []kept.Change) {
	t.Helper()
	r := rand.New(rand.NewSource(16))
	for _, m := range kept.Misses(Fuse, r.Intn, changes) {
		t.Errorf("P16.1, P16.2: %+v", m)
	}
}

// same are graphs of which nothing changes but the order of their nodes.
func same(both string, l ...string) []kept.Change {
	var changes []kept.Change
	for _, text := range l {
		changes = append(changes, kept.Change{both, text, text})
	}
	return changes
}

const (
	ends  = "in x f 2\nin y f 2\nout z f 2"
	three = "a = Add(x, y)\nb = Neg(a)\nz = Relu(b)"
)

func TestExample(t *testing.T) {
	expect(t, []kept.Change{{ends, three, "z = Add(x, y); then=Neg,Relu"}})
}

func TestFuse(t *testing.T) {
	expect(t, []kept.Change{
		// One of them, and several behind one another, each with a then of its own or without one.
		{ends, "a = Add(x, y)\nz = Neg(a)", "z = Add(x, y); then=Neg"},
		{ends, "a = Add(x, y); then=Relu\nz = Neg(a)", "z = Add(x, y); then=Relu,Neg"},
		{ends, "a = Add(x, y)\nz = Neg(a); then=Exp,Tanh", "z = Add(x, y); then=Neg,Exp,Tanh"},
		{ends, "a = Add(x, y); then=Relu,Floor\nz = Neg(a); then=Exp", "z = Add(x, y); then=Relu,Floor,Neg,Exp"},
		{ends, "a = Add(x, y); then=Abs\nb = Neg(a); then=Exp\nz = Tanh(b); then=Sqrt", "z = Add(x, y); then=Abs,Neg,Exp,Tanh,Sqrt"},
		{ends, "a = Add(x, y)\nb = Neg(a); then=Exp\nc = Neg(b)\nz = Tanh(c); then=Sqrt", "z = Add(x, y); then=Neg,Exp,Neg,Tanh,Sqrt"},
		// A node of one goes into a node of one.
		{ends, "a = Neg(x)\nz = Abs(a)", "z = Neg(x); then=Abs"},
		{ends, "a = Neg(x)\nb = Neg(a)\nc = Neg(b)\nz = Neg(c)", "z = Neg(x); then=Neg,Neg,Neg"},
		{ends, "a = Identity(x)\nz = Identity(a)", "z = Identity(x); then=Identity"},
		// Each operator of one.
		{ends, "a = Add(x, y)\nb = Identity(a)\nc = Neg(b)\nd = Abs(c)\ne = Relu(d)\nf = Sqrt(e)\ng = Floor(f)\nh = Exp(g)\ni = Sigmoid(h)\nz = Tanh(i)", "z = Add(x, y); then=Identity,Neg,Abs,Relu,Sqrt,Floor,Exp,Sigmoid,Tanh"},
		{"in x b\nout z b", "a = Xor(x, x)\nz = Not(a)", "z = Xor(x, x); then=Not"},
		// Nodes of all kinds are ahead.
		{"in x f 2\nout z f", "c = Constant(); value=f: 5\nz = Neg(c)", "z = Constant(); value=f: 5; then=Neg"},
		{"in x i\nout z i", "a = Div(x, x)\nz = Neg(a)", "z = Div(x, x); then=Neg"},
		{"in x i 3\nin i i\nout z i", "a = Gather(x, i)\nz = Neg(a)", "z = Gather(x, i); then=Neg"},
		{"in x f 2\nout z b 2", "a = Less(x, x)\nz = Not(a)", "z = Less(x, x); then=Not"},
		{"in x f 2\nout z i 2", "a = Cast(x); to=6\nz = Neg(a)", "z = Cast(x); to=6; then=Neg"},
		{"in x f 2\nout z f 2", "a = Clip(x); max=2; min=1\nz = Neg(a)", "z = Clip(x); max=2; min=1; then=Neg"},
		{"in x f 2\nout z f 2 1", "a = Reshape(x); shape=2 1\nz = Neg(a)", "z = Reshape(x); shape=2 1; then=Neg"},
		{"in x f 1 1 2 2\nout z f 1 1 2 2", "a = Conv(x, w); pads=0 0 0 0\nz = Relu(a)\ninit w f 1 1 1 1: 3", "z = Conv(x, w); pads=0 0 0 0; then=Relu\ninit w f 1 1 1 1: 3"},
		// A then that is not the last attribute stays where it stands.
		{"in x f 2\nout z f 2", "a = Clip(x); then=Exp; max=2; min=1\nz = Neg(a)", "z = Clip(x); then=Exp,Neg; max=2; min=1"},
		{"in x f 2\nout z f 2", "a = Clip(x); max=2; then=Exp; min=1\nb = Neg(a)\nz = Abs(b)", "z = Clip(x); max=2; then=Exp,Neg,Abs; min=1"},
		// Nodes that stand in another order than that of work.
		{ends, "z = Relu(b)\nb = Neg(a)\na = Add(x, y)", "z = Add(x, y); then=Neg,Relu"},
		{ends, "b = Neg(a)\nz = Mul(b, c)\na = Add(x, y)\nd = Sub(y, x)\nc = Abs(d)", "b = Add(x, y); then=Neg\nc = Sub(y, x); then=Abs\nz = Mul(b, c)"},
		// The one ahead stays where it stands, ahead of those that stood between.
		{ends + "\nout v f 2", "a = Add(x, y)\nv = Mul(x, y)\nz = Neg(a)", "z = Add(x, y); then=Neg\nv = Mul(x, y)"},
		{ends + "\nout v f 2", "a = Add(x, y)\nb = Mul(x, y)\nv = Neg(b)\nc = Neg(a)\nz = Sub(c, v)", "c = Add(x, y); then=Neg\nv = Mul(x, y); then=Neg\nz = Sub(c, v)"},
		// A node that is none of one is ahead of one in a chain.
		{ends, "a = Neg(x)\nb = Abs(a)\nc = Add(b, y)\nd = Exp(c)\nz = Tanh(d)", "b = Neg(x); then=Abs\nz = Add(b, y); then=Exp,Tanh"},
		// A value that is made of it alone, read twice by one node, or by several.
		{ends, "a = Add(x, y)\nb = Neg(a)\nz = Mul(b, b)", "b = Add(x, y); then=Neg\nz = Mul(b, b)"},
		{ends, "a = Add(x, y)\nb = Neg(a)\nc = Abs(b)\nz = Mul(b, c)", "b = Add(x, y); then=Neg\nc = Abs(b)\nz = Mul(b, c)"},
		{ends, "a = Add(x, y)\nb = Neg(a)\nc = Abs(b)\nd = Exp(b)\ne = Exp(d)\nz = Mul(c, e)", "b = Add(x, y); then=Neg\nc = Abs(b)\ne = Exp(b); then=Exp\nz = Mul(c, e)"},
		// What nobody reads.
		{ends, "a = Add(x, y)\nb = Neg(a)\nz = Mul(x, y)", "b = Add(x, y); then=Neg\nz = Mul(x, y)"},
		// Initializers stay as they are.
		{ends + "\ninit w f: 3\ninit v f: 4", "a = Add(x, w)\nz = Neg(a)", "z = Add(x, w); then=Neg"},
	})
}

func TestWhatStays(t *testing.T) {
	expect(t, same(ends,
		// An input or an initializer is ahead.
		"z = Neg(x)", "z = Neg(x); then=Abs", "z = Add(x, y)",
		"init w f 2: 1 2\nz = Neg(w)", "init w f 2: 1 2\na = Neg(w)\nz = Add(a, x)",
		// Two nodes read a value, or one reads it twice.
		"a = Add(x, y)\nb = Neg(a)\nc = Abs(a)\nz = Add(b, c)", "a = Add(x, y)\nb = Neg(a)\nz = Mul(a, b)", "a = Neg(x)\nz = Mul(a, a)", "a = Add(x, y)\nb = Neg(a)\nc = Neg(a)\nz = Sub(a, a)",
		// Operators of one input that are none of one.
		"a = Add(x, y)\nz = Clip(a)", "a = Add(x, y)\nz = Cast(a); to=1", "a = Neg(x)\nz = Softmax(a)", "a = Neg(x)\nz = Transpose(a)", "a = Neg(x)\nz = Reshape(a); shape=2", "a = Neg(x)\nz = Concat(a); axis=0", "a = Neg(x)\nz = ReduceSum(a); axes=", "a = Neg(x)\nz = Pad(a); pads=0 0; then=Neg",
	))
	// An output is ahead.
	expect(t, same(ends+"\nout a f 2",
		"a = Add(x, y)\nz = Neg(a)", "a = Neg(x)\nz = Neg(a)", "a = Constant(); value=f 2: 1 2\nz = Neg(a)"))
	expect(t, same("in x f 2\nin y f 2\nout a f 2", "a = Add(x, y)\nz = Neg(a)"))
	expect(t, []kept.Change{
		{ends + "\nout b f 2", three, "b = Add(x, y); then=Neg\nz = Relu(b)"},
		{ends + "\nout a f 2", three, "a = Add(x, y)\nz = Neg(a); then=Relu"},
	})
	// Graphs without nodes, without inputs.
	expect(t, same("in x f 2\nout x f 2", "", "init w i: 5"))
	expect(t, same("out w i", "init w i: 5", "init w i: 5\nz = Neg(w)"))
}

// negs are so many operators.
func negs(n int) string {
	return strings.TrimSuffix(strings.Repeat("Neg,", n), ",")
}

func TestLongTexts(t *testing.T) {
	long := negs(24) + ",Relu"
	if len(long) != api.MaxName {
		t.Fatalf("%d bytes", len(long))
	}
	expect(t, []kept.Change{
		// Just as long as may be: by the operator, by a then behind, by a then ahead.
		{ends, "a = Add(x, y); then=" + negs(24) + "\nz = Relu(a)", "z = Add(x, y); then=" + long},
		{ends, "a = Add(x, y)\nz = Neg(a); then=" + negs(23) + ",Relu", "z = Add(x, y); then=" + long},
		{ends, "a = Add(x, y); then=" + negs(12) + "\nz = Neg(a); then=" + negs(11) + ",Relu", "z = Add(x, y); then=" + long},
		// One byte more.
		{ends, "a = Add(x, y); then=" + negs(24) + "\nz = Floor(a)", "a = Add(x, y); then=" + negs(24) + "\nz = Floor(a)"},
		{ends, "a = Add(x, y)\nz = Relu(a); then=" + negs(23) + ",Relu", "a = Add(x, y)\nz = Relu(a); then=" + negs(23) + ",Relu"},
		{ends, "a = Add(x, y); then=Relu," + negs(11) + "\nz = Neg(a); then=" + negs(11) + ",Relu", "a = Add(x, y); then=Relu," + negs(11) + "\nz = Neg(a); then=" + negs(11) + ",Relu"},
		// What is long already.
		{ends, "a = Add(x, y); then=" + long + "\nz = Neg(a)", "a = Add(x, y); then=" + long + "\nz = Neg(a)"},
		{ends, "a = Add(x, y)\nz = Neg(a); then=" + long, "a = Add(x, y)\nz = Neg(a); then=" + long},
		{ends, "a = Add(x, y); then=" + negs(50) + "\nz = Neg(a); then=" + negs(60), "a = Add(x, y); then=" + negs(50) + "\nz = Neg(a); then=" + negs(60)},
		// Operators behind one that can't go.
		{ends, "a = Add(x, y); then=" + long + "\nb = Neg(a)\nz = Abs(b)", "a = Add(x, y); then=" + long + "\nz = Neg(a); then=Abs"},
		{ends, "a = Add(x, y); then=" + long + "\nb = Neg(a); then=Tanh\nc = Abs(b)\nz = Exp(c); then=Exp", "a = Add(x, y); then=" + long + "\nz = Neg(a); then=Tanh,Abs,Exp,Exp"},
		{ends, "a = Add(x, y); then=" + negs(24) + "\nb = Sigmoid(a)\nz = Neg(b)", "a = Add(x, y); then=" + negs(24) + "\nz = Sigmoid(a); then=Neg"},
		// The first one goes first: from behind the texts would be others.
		{ends, "a = Add(x, y)\nb = Neg(a); then=" + negs(9) + "\nc = Neg(b); then=" + negs(9) + "\nz = Neg(c); then=" + negs(9), "c = Add(x, y); then=" + negs(20) + "\nz = Neg(c); then=" + negs(9)},
		{ends, "z = Neg(c); then=" + negs(9) + "\nc = Neg(b); then=" + negs(9) + "\nb = Neg(a); then=" + negs(9) + "\na = Add(x, y)", "c = Add(x, y); then=" + negs(20) + "\nz = Neg(c); then=" + negs(9)},
		{ends, "a = Add(x, y)\nb = Neg(a); then=" + negs(19) + "\nc = Neg(b); then=" + negs(9) + "\nz = Neg(c); then=" + negs(9), "b = Add(x, y); then=" + negs(20) + "\nz = Neg(b); then=" + negs(19)},
	})
}

// A node that was too long for the one ahead stays, while others go beside it.
func TestChains(t *testing.T) {
	g := spell.Graph("in v0 f 2\nout v1000 f 2")
	for i := 1000; i > 0; i-- {
		g.Nodes = append(g.Nodes, spell.Node("v"+strconv.Itoa(i)+" = Neg(v"+strconv.Itoa(i-1)+")"))
	}
	want := spell.Graph("in v0 f 2\nout v1000 f 2")
	last := 0
	for last < 1000 {
		// A Neg, and as many behind it as a text has room for.
		next := min(last+26, 1000)
		want.Nodes = append(want.Nodes, spell.Node("v"+strconv.Itoa(next)+" = Neg(v"+strconv.Itoa(last)+"); then="+negs(next-last-1)))
		last = next
	}
	got, e := Fuse(g)
	if e != api.OK || !spell.SameGraphs(got, want) {
		t.Errorf("P16.1: a chain of 1000: %v, %d", got, e)
	}
	if broken := kept.Broken(Fuse, g, spell.Tensors("f 2: 1 nan")); len(broken) > 0 {
		t.Errorf("P16.2: a chain of 1000: %q", broken)
	}
	g.Nodes = append(g.Nodes, spell.Node("more = Neg(v0)"))
	if got, e := Fuse(g); e != api.ErrLimit || len(got.Nodes) != 0 {
		t.Errorf("P16.1: 1001 nodes: %v, %d", got, e)
	}
}

// Names, and what counts for nothing, stay: those of the node ahead.
func TestAllElseStays(t *testing.T) {
	g := spell.Graph("in x f 2\ninit w f: 1\nz = Neg(a); then=Abs\na = Clip(x); min=1; then=Exp\nd = Sub(x, w)\ne = Exp(d)\nout z f 2")
	g.Name = "graph"
	for i := range g.Nodes {
		g.Nodes[i].Name = "node " + strconv.Itoa(i)
	}
	g.Nodes[0].Attrs[0].I = 1
	g.Nodes[1].Attrs[1].I = 2
	g.Nodes[1].Attrs[0].S = "counts for nothing"
	want := spell.Graph("in x f 2\ninit w f: 1\nz = Clip(x); min=1; then=Exp,Neg,Abs\ne = Sub(x, w); then=Exp\nout z f 2")
	want.Name, want.Nodes[0].Name, want.Nodes[1].Name = "graph", "node 1", "node 2"
	want.Nodes[0].Attrs[1].I = 2
	want.Nodes[0].Attrs[0].S = "counts for nothing"
	if got, e := Fuse(g); e != api.OK || !spell.SameGraphs(got, want) {
		t.Errorf("P16.1: %v, %d, not %v", got, e, want)
	}
}

// Of several errors the first one in the order of work stays the first one.
func TestFirstError(t *testing.T) {
	const ends = "in x i\ninit w i: 5\ninit l i 1: 8\nout z i\n"
	for _, c := range []struct{ nodes, ofNought, ofOne string }{
		{"d = Div(w, x)\ni = Gather(l, w)\ne = Neg(d)\nz = Neg(i)", "divide", "index"},
		{"i = Gather(l, w)\nd = Div(w, x)\ne = Neg(d)\nz = Neg(i)", "index", "index"},
		{"z = Neg(i)\ni = Gather(l, y)\ny = Neg(u)\nd = Div(w, x)\nu = Abs(w)", "divide", "index"},
		{"z = Neg(d)\nd = Div(w, x)", "divide", ""},
	} {
		h, _ := Fuse(spell.Graph(ends + c.nodes))
		for in, want := range map[string]string{"i: 0": c.ofNought, "i: 1": c.ofOne} {
			if _, e := sem.Eval(h, spell.Tensors(in)); spell.Word(e) != want {
				t.Errorf("P16.2: %s\nof %s: %q, not %q", c.nodes, in, spell.Word(e), want)
			}
		}
	}
}

func TestWrongGraphs(t *testing.T) {
	for _, text := range kept.NotRefused(Fuse) {
		t.Errorf("P16.1: Fuse does not refuse as infer.All does:\n%s", text)
	}
}
