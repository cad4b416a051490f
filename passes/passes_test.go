package passes

import (
	"math"
	"math/rand"
	"slices"
	"strconv"
	"testing"

	"mandrel/api"
	"mandrel/fold"
	"mandrel/fuse"
	"mandrel/kept"
	"mandrel/layout"
	"mandrel/sample"
	"mandrel/sem"
	"mandrel/spell"
)

// with is Run with a mask.
func with(mask int) kept.Pass {
	return func(g api.Graph) (api.Graph, api.Errno) { return Run(g, mask) }
}

// behind are lines, and the masks behind whose passes they are the graph's.
type behind map[string][]int

// expect holds what comes out against lines, which have no ends; each of the 16 masks must stand beside some lines.
func expect(t *testing.T, ends, text string, lines behind) {
	t.Helper()
	r := rand.New(rand.NewSource(18))
	g := spell.Graph(ends + text)
	in := [][]api.Tensor{sample.Inputs(r.Intn, g), sample.Inputs(r.Intn, g), nil}
	masks := 0
	for want, l := range lines {
		for _, mask := range l {
			masks |= 1 << mask
			got, e := Run(g, mask)
			if e != api.OK || !spell.SameGraphs(got, spell.Graph(ends+want)) {
				t.Errorf("P18.1: %s\nwith %d: %v, %d, not\n%s", text, mask, got, e, want)
			}
			if lost := kept.Lost(with(mask), g, in...); len(lost) > 0 {
				t.Errorf("P18.2: %s\nwith %d loses %q of %v", text, mask, lost, in)
			}
		}
	}
	if masks != 1<<16-1 {
		t.Errorf("%s: not of all masks: %b", text, masks)
	}
}

// masksOf are those that have all of some passes, and none of some others.
func masksOf(has, hasNot int) []int {
	var l []int
	for mask := range 16 {
		if mask&has == has && mask&hasNot == 0 {
			l = append(l, mask)
		}
	}
	return l
}

const (
	pfold, pdead, pplain, pfuse = api.PassFold, api.PassDead, api.PassPlain, api.PassFuse
)

func TestExamples(t *testing.T) {
	const ends = "in x i 2\nout z i 2\n"
	expect(t, ends, "a = Add(x, x)\nz = Neg(a)", behind{
		"a = Add(x, x)\nz = Neg(a)": masksOf(0, pfuse),
		"z = Add(x, x); then=Neg":   masksOf(pfuse, 0),
	})
	expect(t, "in x f 2 3\nout z f 2 3\n", "a = Transpose(x)\nz = Transpose(a)", behind{
		"a = Transpose(x)\nz = Transpose(a)":           masksOf(0, pplain),
		"a = Transpose(x)\nz = Transpose(x); perm=0 1": masksOf(pplain, pdead),
		"z = Transpose(x); perm=0 1":                   masksOf(pplain|pdead, 0),
	})
	expect(t, ends, "init w i 2: 5 6\nv = Neg(w)\nz = Add(v, x)", behind{
		"init w i 2: 5 6\nv = Neg(w)\nz = Add(v, x)":        masksOf(0, pfold),
		"init w i 2: 5 6\ninit v i 2: -5 -6\nz = Add(v, x)": masksOf(pfold, pdead),
		"init v i 2: -5 -6\nz = Add(v, x)":                  masksOf(pfold|pdead, 0),
	})
	// Without any pass nodes are put into the order of work.
	expect(t, ends, "z = Add(a, b)\nb = Sub(x, x)\na = Mul(x, x)", behind{"b = Sub(x, x)\na = Mul(x, x)\nz = Add(a, b)": masksOf(0, 0)})
	expect(t, "in x f\nout x f\n", "", behind{"": masksOf(0, 0)})
}

// Of each two passes graphs that would be others, were the second one done first.
func TestOrderOfPasses(t *testing.T) {
	const ends = "in x i\nout z i\n"
	expect(t, ends, "init w i: 5\ni = Identity(w)\nz = Add(i, x)", behind{
		"init w i: 5\ni = Identity(w)\nz = Add(i, x)": masksOf(0, pfold|pplain),
		"init w i: 5\ninit i i: 5\nz = Add(i, x)":     masksOf(pfold, pdead),
		"init i i: 5\nz = Add(i, x)":                  masksOf(pfold|pdead, 0),
		"init w i: 5\nz = Add(w, x)":                  masksOf(pplain, pfold),
	})
	expect(t, ends, "init w i: 5\na = Neg(w)\nb = Abs(a)\nz = Add(b, x)", behind{
		"init w i: 5\na = Neg(w)\nb = Abs(a)\nz = Add(b, x)":    masksOf(0, pfold|pfuse),
		"init w i: 5\ninit a i: -5\ninit b i: 5\nz = Add(b, x)": masksOf(pfold, pdead),
		"init b i: 5\nz = Add(b, x)":                            masksOf(pfold|pdead, 0),
		"init w i: 5\nb = Neg(w); then=Abs\nz = Add(b, x)":      masksOf(pfuse, pfold),
	})
	expect(t, ends, "a = Add(x, x)\nb = Identity(a)\nz = Neg(b)", behind{
		"a = Add(x, x)\nb = Identity(a)\nz = Neg(b)": masksOf(0, pplain|pfuse),
		"a = Add(x, x)\nz = Neg(a)":                  masksOf(pplain, pfuse),
		"z = Add(x, x); then=Identity,Neg":           masksOf(pfuse, pplain),
		"z = Add(x, x); then=Neg":                    masksOf(pplain|pfuse, 0),
	})
	expect(t, ends, "a = Add(x, x)\nb = Neg(a)\nz = Abs(a)", behind{
		"a = Add(x, x)\nb = Neg(a)\nz = Abs(a)": masksOf(0, pdead),
		"a = Add(x, x)\nz = Abs(a)":             masksOf(pdead, 0),
	})
	expect(t, "in x i 2 3\nout z i 6\n", "a = Reshape(x); shape=3 2\nb = Reshape(a); shape=6\nz = Neg(b)", behind{
		"a = Reshape(x); shape=3 2\nb = Reshape(a); shape=6\nz = Neg(b)": masksOf(0, pplain|pfuse),
		"a = Reshape(x); shape=3 2\nz = Reshape(a); shape=6; then=Neg":   masksOf(pfuse, pplain),
		"a = Reshape(x); shape=3 2\nb = Reshape(x); shape=6\nz = Neg(b)": masksOf(pplain, pfuse|pdead),
		"b = Reshape(x); shape=6\nz = Neg(b)":                            masksOf(pplain|pdead, pfuse),
		"a = Reshape(x); shape=3 2\nz = Reshape(x); shape=6; then=Neg":   masksOf(pplain|pfuse, pdead),
		"z = Reshape(x); shape=6; then=Neg":                              masksOf(pplain|pfuse|pdead, 0),
	})
	// A turn reads, once it is plain, what only the one ahead had read: fusion goes behind that.
	expect(t, "in x f 2 3\nout z f 2 3\n", "a = Abs(x)\nb = Transpose(a)\nc = Neg(x)\nd = Transpose(b)\ne = Sub(d, c)\nz = Exp(e)", behind{
		"a = Abs(x)\nb = Transpose(a)\nc = Neg(x)\nd = Transpose(b)\ne = Sub(d, c)\nz = Exp(e)": masksOf(0, pplain|pfuse),
		"a = Abs(x)\nb = Transpose(a)\nc = Neg(x)\nd = Transpose(b)\nz = Sub(d, c); then=Exp":   masksOf(pfuse, pplain),
		"a = Abs(x)\nb = Transpose(a)\nc = Neg(x)\ne = Sub(a, c)\nz = Exp(e)":                   masksOf(pplain, pfuse|pdead),
		"a = Abs(x)\nb = Transpose(a)\nc = Neg(x)\nz = Sub(a, c); then=Exp":                     masksOf(pplain|pfuse, pdead),
		"a = Abs(x)\nc = Neg(x)\ne = Sub(a, c)\nz = Exp(e)":                                     masksOf(pplain|pdead, pfuse),
		"a = Abs(x)\nc = Neg(x)\nz = Sub(a, c); then=Exp":                                       masksOf(pplain|pfuse|pdead, 0),
	})
}

func TestMasks(t *testing.T) {
	g := spell.Graph("in x i\nout z i\nz = Neg(x)")
	wrong := spell.Graph("in x i\nout z i\nz = What(x)")
	for _, mask := range []int{-1, 16, 17, 31, 32, 64, 255, 256, -15, -16, -17, 1 << 16, 1<<31 - 1, math.MinInt32, math.MaxInt, math.MinInt, math.MinInt + 1, math.MinInt + 15} {
		for _, g := range []api.Graph{g, wrong, {}} {
			if h, e := Run(g, mask); e != api.ErrArg || !spell.SameGraphs(h, api.Graph{}) {
				t.Errorf("P18.1: mask %d of %v: %v, %d", mask, g, h, e)
			}
		}
	}
	for mask := range 16 {
		if h, e := Run(g, mask); e != api.OK || !spell.SameGraphs(h, g) {
			t.Errorf("P18.1: mask %d of %v: %v, %d", mask, g, h, e)
		}
	}
}

func TestWrongGraphs(t *testing.T) {
	for mask := range 16 {
		for _, text := range kept.NotRefused(with(mask)) {
			t.Errorf("P18.1: with %d, Run does not refuse as infer.All does:\n%s", mask, text)
		}
	}
}

// Nodes that may err, in what each of the passes changes.
func TestErrors(t *testing.T) {
	const ends = "in x i 1\ninit w i 1: 5\ninit o i 1: 0\ninit l i 1: 8\nout z i 1\n"
	for _, c := range []struct{ nodes, ofNought, ofOne string }{
		// Nobody reads what errs.
		{"z = Neg(x)\nd = Div(w, x)", "divide", ""},
		{"z = Neg(x)\nd = Div(w, o)", "divide", "divide"},
		{"z = Neg(x)\ni = Gather(l, x)", "", "index"},
		{"z = Neg(x)\ni = Gather(l, w)\nn = Neg(i)", "index", "index"},
		{"z = Identity(x)\nn = Neg(w)\np = Add(n, w)\nd = Div(w, p)\nr = Reshape(d); shape=1 1\ns = Squeeze(r); axes=0", "divide", "divide"},
		// What is done ahead comes out of the way of what errs behind it.
		{"d = Div(w, x)\ni = Gather(l, w)\nz = Neg(x)", "divide", "index"},
		{"i = Gather(l, w)\nd = Div(w, x)\nz = Neg(x)", "index", "index"},
		{"i = Gather(l, y)\nd = Div(w, x)\ny = Neg(w)\nz = Neg(x)", "divide", "index"},
		{"i = Gather(l, y)\ny = Neg(w)\nd = Div(w, x)\nz = Neg(x)", "index", "index"},
		{"z = Neg(d)\nd = Div(y, o)\ni = Gather(l, x)\ny = Neg(w)", "divide", "index"},
		// Moves ahead of what errs.
		{"i = Gather(l, c)\nd = Div(w, x)\nc = Transpose(b)\nb = Transpose(a)\na = Expand(w); shape=1\nz = Neg(x)", "divide", "index"},
		{"d = Div(w, c)\ni = Gather(l, w)\nc = Squeeze(b); axes=0\nb = Unsqueeze(x); axes=0\nz = Neg(x)", "index", "index"},
		// What follows goes into what errs.
		{"z = Neg(i)\ni = Gather(l, y)\ny = Neg(u)\nd = Div(w, x)\nu = Abs(w)\ne = Neg(d)", "divide", "index"},
		{"e = Neg(d)\nd = Div(w, x)\nz = Abs(i)\ni = Gather(l, n)\nn = Identity(w)", "divide", "index"},
		{"z = Neg(d)\nd = Div(w, x)", "divide", ""},
	} {
		g := spell.Graph(ends + c.nodes)
		for mask := range 16 {
			h, e := Run(g, mask)
			if e != api.OK {
				t.Errorf("P18.1: %s\nwith %d: %d", c.nodes, mask, e)
			}
			for in, want := range map[string]string{"i 1: 0": c.ofNought, "i 1: 1": c.ofOne} {
				if _, e := sem.Eval(h, spell.Tensors(in)); spell.Word(e) != want {
					t.Errorf("P18.2: %s\nwith %d of %s: %q, not %q", c.nodes, mask, in, spell.Word(e), want)
				}
			}
		}
	}
}

// chain lets a graph go through passes.
func chain(g api.Graph, passes ...kept.Pass) api.Graph {
	for _, pass := range passes {
		g, _ = pass(g)
	}
	return g
}

// masked are such of the passes as a mask has, in the document's order.
func masked(mask int) []kept.Pass {
	var l []kept.Pass
	if mask&1 != 0 {
		l = append(l, fold.Fold)
	}
	if mask&4 != 0 {
		l = append(l, layout.Plain)
	}
	if mask&8 != 0 {
		l = append(l, fuse.Fuse)
	}
	if mask&2 != 0 {
		l = append(l, fold.Dead)
	}
	return l
}

func TestAgainstTheDefinition(t *testing.T) {
	r := rand.New(rand.NewSource(181))
	const some = " Identity Transpose Transpose Reshape Unsqueeze Squeeze Neg Abs Add Constant Gather Div"
	swapped, errors := map[string]int{}, map[api.Errno]int{}
	for i := range 600 {
		g := sample.Graph(r.Intn, r.Intn(16), []string{sample.All, some}[i%2])
		g.Name = "graph"
		for j := range g.Nodes {
			g.Nodes[j].Name = "node " + strconv.Itoa(j)
		}
		in := [][]api.Tensor{sample.Inputs(r.Intn, g), nil}
		_, e := sem.Eval(g, in[0])
		errors[e]++
		for mask := range 16 {
			l := masked(mask)
			got, e := Run(g, mask)
			if want := chain(kept.InOrder(g), l...); e != api.OK || !spell.SameGraphs(got, want) {
				t.Fatalf("P18.1: %v\nwith %d is %v, %d\nnot %v", g, mask, got, e, want)
			}
			if lost := kept.Lost(with(mask), g, in...); len(lost) > 0 {
				t.Fatalf("P18.2: %v\nwith %d loses %q of %v", g, mask, lost, in)
			}
			if len(l) == 2 && !spell.SameGraphs(got, chain(g, l[1], l[0])) {
				swapped[strconv.Itoa(mask)]++
			}
		}
	}
	for _, mask := range []string{"3", "5", "6", "9", "10", "12"} {
		if swapped[mask] < 10 {
			t.Errorf("the order of the two passes of %s counts only %d times", mask, swapped[mask])
		}
	}
	if errors[api.ErrDivide] < 10 || errors[api.ErrIndex] < 10 {
		t.Errorf("errors of runs: %v", errors)
	}
}

// As many nodes as may be. A value that a turn reads, too, stays by itself, though nobody reads the turn: such nodes go last.
func TestGreatGraphs(t *testing.T) {
	const ends = "in v0 f 2 3\nout z f 3 2\n"
	g := spell.Graph(ends + "z = Neg(v999)")
	for i := 999; i > 0; i-- {
		op := []string{"Transpose", "Transpose", "Identity", "Abs"}[i%4]
		g.Nodes = append(g.Nodes, spell.Node("v"+strconv.Itoa(i)+" = "+op+"(v"+strconv.Itoa(i-1)+")"))
	}
	for mask := range 16 {
		if lost := kept.Lost(with(mask), g, spell.Tensors("f 2 3: 1 -2 3 nan -0 -inf")); len(lost) > 0 {
			t.Errorf("P18.2: 1000 nodes, with %d: %q", mask, lost)
		}
	}
	want := spell.Graph(ends + "v3 = Transpose(v0); then=Abs")
	for i := 7; i < 999; i += 4 {
		want.Nodes = append(want.Nodes, spell.Node("v"+strconv.Itoa(i)+" = Abs(v"+strconv.Itoa(i-4)+")"))
	}
	want.Nodes = append(want.Nodes, spell.Node("z = Abs(v995); then=Neg"))
	if h, e := Run(g, api.PassAll); e != api.OK || !spell.SameGraphs(h, want) {
		t.Errorf("P18.1: 1000 nodes: %v, %d, not %v", h, e, want)
	}
	more := g
	more.Nodes = append(slices.Clone(g.Nodes), spell.Node("more = Neg(v0)"))
	if h, e := Run(more, api.PassAll); e != api.ErrLimit || len(h.Nodes) != 0 {
		t.Errorf("P18.1: 1001 nodes: %d nodes, %d", len(h.Nodes), e)
	}
}
