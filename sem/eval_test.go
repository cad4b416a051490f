package sem

import (
	"strconv"
	"strings"
	"testing"

	"mandrel/api"
	"mandrel/spell"
)

// expectEval holds what a graph makes of inputs against tensors, or against the word of an error.
func expectEval(t *testing.T, text, in, want string) {
	t.Helper()
	got, e := Eval(spell.Graph(text), spell.Tensors(in))
	if e != api.OK {
		if spell.Word(e) != want || len(got) != 0 {
			t.Errorf("P14.2: %s\nof %s: %v, %s, not %s", text, in, got, spell.Word(e), want)
		}
		return
	}
	same := strings.Contains(want, ":")
	var l []api.Tensor
	if same {
		l = spell.Tensors(want)
		same = len(l) == len(got)
	}
	for i := 0; same && i < len(l); i++ {
		same = spell.Same(got[i], l[i])
	}
	if !same {
		t.Errorf("P14.2: %s\nof %s: %v, not %s", text, in, got, want)
	}
}

func TestExample(t *testing.T) {
	expectEval(t, "in x i 2\ny = Add(x, x)\nz = Neg(y)\nout z i 2", "i 2: 1 2", "i 2: -2 -4")
}

func TestOrders(t *testing.T) {
	for _, text := range []string{
		"y = Add(x, x)\nz = Neg(y)",
		"z = Neg(y)\ny = Add(x, x)",
		"z = Neg(a)\na = Identity(b)\nb = Add(c, c)\nc = Identity(x)",
		"a = Neg(x)\nz = Add(b, a)\nb = Identity(a)",
		"z = Add(x, x); then=Neg",
		"z = Sub(zero, y)\ny = Add(x, x)\nzero = Constant(); value=i: 0",
	} {
		expectEval(t, "in x i 2\nout z i 2\n"+text, "i 2: 1 2", "i 2: -2 -4")
	}
}

// Which value goes where: into a node's inputs, and into the outputs.
func TestValues(t *testing.T) {
	for _, c := range []struct{ text, in, want string }{
		// A node that reads one value twice, or in another order.
		{"in x i\nin y i\nz = Sub(x, y)\nout z i", "i: 7, i: 2", "i: 5"},
		{"in x i\nin y i\nz = Sub(y, x)\nout z i", "i: 7, i: 2", "i: -5"},
		{"in x i\nz = Sub(x, x)\nout z i", "i: 7", "i: 0"},
		{"in x i 1\nz = Concat(x, x, x); axis=0\nout z i 3", "i 1: 7", "i 3: 7 7 7"},
		{"in x f 1 1 1 1\nz = Conv(x, x)\nout z f 1 1 1 1", "f 1 1 1 1: 3", "f 1 1 1 1: 9"},
		// Initializers.
		{"in x i 2\ninit w i: 10\nz = Mul(x, w)\nout z i 2", "i 2: 1 2", "i 2: 10 20"},
		{"init w i: 10\nz = Mul(w, w)\nout z i", "", "i: 100"},
		{"init v i: 3\ninit w i: 10\nz = Sub(w, v)\nout z i", "", "i: 7"},
		// Outputs that are inputs or initializers, graphs without nodes, or with nodes that nobody reads.
		{"in x i 2\nout x i 2", "i 2: 1 2", "i 2: 1 2"},
		{"in x f\nin y b 2\nout y b 2\nout x f", "f: nan, b 2: 1 0", "b 2: 1 0, f: nan"},
		{"init w l 2: 5 6\nout w l 2", "", "l 2: 5 6"},
		{"in x i 2\ninit w l: 5\nz = Neg(x)\nout w l\nout x i 2\nout z i 2", "i 2: 1 2", "l: 5, i 2: 1 2, i 2: -1 -2"},
		{"in x i\nz = Neg(x)\nout x i", "i: 1", "i: 1"},
		{"in x i\ninit w i 2: 5 6\nout x i", "i: 1", "i: 1"},
		// Outputs stand in their own order, and may be read by nodes.
		{"in x i\na = Neg(x)\nb = Add(a, x)\nout b i\nout a i", "i: 1", "i: 0, i: -1"},
		{"in x i\nb = Add(a, x)\na = Neg(x)\nout a i\nout b i", "i: 1", "i: -1, i: 0"},
		// Constant alone, and with what follows.
		{"c = Constant(); value=f 2: 1.5 -0\nout c f 2", "", "f 2: 1.5 -0"},
		{"c = Constant(); value=f 2: 1.5 -0; then=Neg\nout c f 2", "", "f 2: -1.5 0"},
		// Each of the layers.
		{"in x f 1 1 2 2\ninit w f 1 1 2 2: 1 1 1 1\nc = Conv(x, w)\nr = Reshape(c); shape=1 1\nm = MatMul(r, r); then=Sqrt\ns = ReduceSum(m)\nz = Neg(s)\nout z f 1 1", "f 1 1 2 2: 1 2 3 4", "f 1 1: -10"},
		// Types and dims that change on the way.
		{"in x f 2 3\na = ArgMax(x); axis=1; keepdims=0\nb = Cast(a); to=9; then=Not\nout b b 2\nout a l 2", "f 2 3: 3 2 1 1 2 3", "b 2: 1 0, l 2: 0 2"},
		{"in x i 3\nin i l 2\nz = Gather(x, i)\nout z i 2", "i 3: 5 6 7, l 2: 2 -3", "i 2: 7 5"},
		// A name may be an operator's.
		{"in Neg i\nNeg2 = Neg(Neg)\nout Neg2 i", "i: 1", "i: -1"},
	} {
		expectEval(t, c.text, c.in, c.want)
	}
}

// infer.All's error, whatever the inputs are.
func TestGraphsThatMayNotBe(t *testing.T) {
	for _, c := range []struct{ text, in, want string }{
		{"", "", "graph"},
		{"in x i", "i: 1", "graph"},
		{"in x i\nout y i", "i: 1", "graph"},
		{"in x i\nz = Neg(y)\ny = Neg(z)\nout x i", "i: 1", "graph"},
		{"in x i\nz = What(x)\nout z i", "i: 1", "unsupported"},
		{"in x i\nz = Not(x)\nout z i", "i: 1", "graph"},
		{"in x i\nz = Neg(x); then=Not\nout z i", "i: 1", "graph"},
		{"in x i\nz = Neg(x)\nout z l", "i: 1", "graph"},
		{"in x i\nz = Neg(x)\nout z i 1", "i: 1", "graph"},
		{"in x i 65537\nout x i 65537", "", "limit"},
		{"in x 2\nout x 2", "2: 1", "unsupported"},
		{"in x i\nz = Cast(x); to=3\nout z 3", "i: 1", "unsupported"},
		{"in x i\nz = Reshape(x); shape=1 1 1 1 1 1 1\nout z i", "i: 1", "limit"},
		{"in x i\ninit w i 2: 1\nout x i", "i: 1", "graph"},
		// It is ahead of ErrArg, and of what a run would meet.
		{"in x i\nz = Neg(x)\nout z l", "", "graph"},
		{"in x i\nz = Neg(x)\nout z l", "b: 2", "graph"},
		{"in x i\nz = What(x)\nout z i", "", "unsupported"},
		{"in x i 65537\nout x i 65537", "i: 1", "limit"},
		{"in x i\ninit w i: 0\nz = Div(x, w)\nout z l", "i: 1", "graph"},
		{"in x i\ninit w i: 0\na = Div(x, w)\nz = Not(a)\nout z i", "i: 1", "graph"},
	} {
		expectEval(t, c.text, c.in, c.want)
	}
}

func TestWrongInputs(t *testing.T) {
	text := "in x i 2\nin y f 1\nz = Neg(x)\nout z i 2\nout y f 1"
	expectEval(t, text, "i 2: 1 2, f 1: 3", "i 2: -1 -2, f 1: 3")
	for _, in := range []string{
		"", "i 2: 1 2", "i 2: 1 2, f 1: 3, f 1: 3", "f 1: 3, i 2: 1 2",
		"l 2: 1 2, f 1: 3", "i 2: 1 2, i 1: 3", "b 2: 1 1, f 1: 3", "3 2: 1 2, f 1: 3", "0: 1, f 1: 3",
		"i 2 1: 1 2, f 1: 3", "i 1 2: 1 2, f 1: 3", "i 3: 1 2 3, f 1: 3", "i 1: 1, f 1: 3", "i: 1, f 1: 3", "i 2: 1 2, f: 3", "i 2: 1 2, f 2: 3 4",
		"i 2: 1, f 1: 3", "i 2: 1 2 3, f 1: 3", "i 2: 1 2, f 1:", "i 2: 1 2147483648, f 1: 3", "i 0:, f 1: 3", "i -2: 1 2, f 1: 3",
	} {
		expectEval(t, text, in, "arg")
	}
	expectEval(t, "init w i: 1\nout w i", "i: 1", "arg")
	expectEval(t, "in x b\nz = Not(x)\nout z b", "b: 2", "arg")
	// ErrArg is ahead of what a run would meet.
	expectEval(t, "in x i\ninit w i: 0\nz = Div(x, w)\nout z i", "i: 2147483648", "arg")
	expectEval(t, "in x i\ninit w i: 0\nz = Div(w, w)\nout z i", "", "arg")
	nan := api.Tensor{Type: api.Float, Data: []int64{api.NaN + 1}}
	if got, e := Eval(spell.Graph("in x f\nout x f"), []api.Tensor{nan}); e != api.ErrArg || len(got) != 0 {
		t.Errorf("P14.2: another NaN: %v, %d", got, e)
	}
}

// Of several nodes that err, the first one in the order of work is told, needed or not.
func TestErrorsOfARun(t *testing.T) {
	for _, c := range []struct{ nodes, want string }{
		{"z = Div(x, x)", "divide"},
		{"z = Gather(l, x)\nv = Neg(x)", "i: 5"},
		{"z = Gather(l, one)", "index"},
		{"z = Neg(x)\nd = Div(x, x)", "divide"},
		{"z = Neg(x)\ni = Gather(l, one)", "index"},
		{"d = Div(x, x)\nz = Gather(l, one)", "divide"},
		{"z = Gather(l, one)\nd = Div(x, x)", "index"},
		// The one that stands first is ready late.
		{"z = Gather(l, a)\na = Identity(one)\nd = Div(x, x)", "index"},
		{"z = Gather(l, b)\nb = Identity(a)\na = Identity(one)\nd = Div(x, x)", "index"},
		{"b = Identity(a)\nz = Gather(l, b)\nd = Div(x, x)\na = Identity(one)", "divide"},
		{"z = Gather(l, a)\nd = Div(x, x)\na = Identity(one)", "divide"},
		// What comes behind an error is not done.
		{"d = Div(x, x)\ne = Neg(d)\nz = Gather(l, e)", "divide"},
		{"z = Gather(l, e)\ne = Neg(d)\nd = Div(x, x)", "divide"},
	} {
		expectEval(t, "in x i\ninit one i: 1\ninit l i 1: 5\nout z i\n"+c.nodes, "i: 0", c.want)
	}
	expectEval(t, "in x f\nz = Div(x, x)\nout z f", "f: 0", "f: nan")
	expectEval(t, "in x i\nz = Div(x, x)\nout z i", "i: 3", "i: 1")
}

// As many nodes, and as many values, as may be.
func TestGreatGraphs(t *testing.T) {
	g := spell.Graph("in v0 i 2\nout v1000 i 2\nout v1 i 2")
	for i := 1000; i > 0; i-- {
		g.Nodes = append(g.Nodes, api.Node{Op: "Add", In: []string{"v" + strconv.Itoa(i-1), "one"}, Out: "v" + strconv.Itoa(i)})
	}
	g.Inits = []api.Named{{Name: "one", T: spell.Tensor("i: 1")}}
	got, e := Eval(g, spell.Tensors("i 2: 5 -7"))
	if e != api.OK || len(got) != 2 || !spell.Same(got[0], spell.Tensor("i 2: 1005 993")) || !spell.Same(got[1], spell.Tensor("i 2: 6 -6")) {
		t.Errorf("P14.2: 1000 nodes: %v, %d", got, e)
	}
	wide := api.Graph{}
	var in []api.Tensor
	for i := range api.MaxValues {
		v := api.Value{Name: strconv.Itoa(i), Type: api.Int64}
		wide.In = append(wide.In, v)
		wide.Out = append([]api.Value{v}, wide.Out...)
		in = append(in, api.Tensor{Type: api.Int64, Data: []int64{int64(i)}})
	}
	got, e = Eval(wide, in)
	if e != api.OK || len(got) != api.MaxValues || got[0].Data[0] != api.MaxValues-1 || got[api.MaxValues-1].Data[0] != 0 {
		t.Errorf("P14.2: %d values: %d, %d", api.MaxValues, len(got), e)
	}
}
