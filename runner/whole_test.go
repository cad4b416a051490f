package runner

import (
	"math/rand"
	"slices"
	"strconv"
	"strings"
	"testing"

	"mandrel/api"
	"mandrel/infer"
	"mandrel/load"
	"mandrel/sample"
	"mandrel/sem"
	"mandrel/spell"
	"mandrel/told"
)

// plainFile is a graph of lines, told plainly. Such as pb.Encode does not tell may be there, too.
func plainFile(lines string) string {
	return told.File(func(n int) int { return n - 1 }, spell.Graph(lines))
}

func expectRefused(t *testing.T, s string, want api.Errno) {
	t.Helper()
	for mask := range 16 {
		if p, e := load.Load(s, mask); e != want || len(p.Values)+len(p.Order)+len(p.Graph.Nodes)+p.Layout.Size != 0 {
			t.Errorf("P4: %.100q with %d: %v, %d, not %d", s, mask, p, e, want)
		}
	}
}

// expectPlanned holds a plan's graph against lines of nodes and initializers.
func expectPlanned(t *testing.T, ends, lines string, mask int, want string) {
	t.Helper()
	if p := loaded(t, ends+lines, mask); !spell.SameGraphs(p.Graph, spell.Graph(ends+want)) {
		t.Errorf("P3: %s\nwith %d: %v, not %s", lines, mask, p.Graph, want)
	}
}

// The document's ten examples of the whole, in their order.
func TestTenExamples(t *testing.T) {
	expectRefused(t, "", api.ErrGraph)
	expectRefused(t, "\x08", api.ErrWire)

	const twoInts, twoNodes = "in x i 2\nout z i 2\n", "y = Add(x, x)\nz = Neg(y)"
	expectRuns(t, twoInts+twoNodes, "i 2: 1 2", "i 2: -2 -4")
	expectPlanned(t, twoInts, twoNodes, api.PassAll, "z = Add(x, x); then=Neg")

	expectRefused(t, plainFile("in x i\nz = What(x)\nout z i"), api.ErrUnsupported)
	expectRefused(t, plainFile("in x i\nz = Neg(y)\ny = Neg(z)\nout z i"), api.ErrGraph)
	expectRefused(t, plainFile("in x i 65537\nz = Neg(x)\nout z i 65537"), api.ErrLimit)
	expectRefused(t, plainFile("in x i\ninit w b 65537: "+strings.Repeat("1 ", 65537)+"\nz = Neg(x)\nout z i"), api.ErrLimit)

	expectRuns(t, "in x i 3\nin y i 3\nz = Div(x, y)\nout z i 3", "i 3: 1 0 -1, i 3: 1 0 1", "divide")
	expectRuns(t, "in x f 4\nin y f 4\nz = Div(x, y)\nout z f 4", "f 4: 1 0 -1 1, f 4: 0 0 0 -0", "f 4: inf nan -inf -inf")

	for _, out := range []string{"out z i 2", "out x i 3"} {
		expectRuns(t, "in x i 3\nin i l 2\nz = Gather(x, i)\n"+out, "i 3: 1 2 3, l 2: 0 3", "index")
	}

	for _, mask := range []int{api.PassPlain | api.PassDead, api.PassAll} {
		expectPlanned(t, "in x f 2 3\nout z f 2 3\n", "y = Transpose(x)\nz = Transpose(y)", mask, "z = Transpose(x); perm=0 1")
		expectPlanned(t, "in x f 2 3\nout z f 2 3\n", "y = Transpose(x)\nu = Transpose(y)\nz = Neg(u)", mask, "z = Neg(x)")
	}
	const added = "init w i 2: 5 6\nv = Neg(w)\nz = Add(v, x)"
	expectPlanned(t, twoInts, added, api.PassFold, "init w i 2: 5 6\ninit v i 2: -5 -6\nz = Add(v, x)")
	expectRuns(t, twoInts+added, "i 2: 1 2", "i 2: -4 -4")

	expectRuns(t, "in x f 2\nz = Softmax(x)\nout z f 2", "f 2: 0 0", "f 2: 0.5 0.5")
	if half := spell.Bits("0.5"); half != 0x3f000000 {
		t.Errorf("example 9: %x", half)
	}
	expectRuns(t, "in x f 1 2\nin y f 2 1\nz = MatMul(x, y)\nout z f 1 1", "f 1 2: inf 1, f 2 1: 0 1", "f 1 1: nan")
}

// alone is a graph of one node of a line of spell.Others, its inputs inputs or initializers, with what it makes as its output.
func alone(line string, asInits bool) (api.Graph, []api.Tensor) {
	part := strings.Split(line, "|")
	tensors := spell.Tensors(part[1])
	n := spell.Op(part[0], len(tensors))
	var g api.Graph
	var values []api.Value
	for i, x := range tensors {
		n.In[i] = "x" + strconv.Itoa(i)
		v := api.Value{Name: n.In[i], Type: x.Type, Dims: x.Dims}
		values = append(values, v)
		if asInits {
			g.Inits = append(g.Inits, api.Named{Name: v.Name, T: x})
		} else {
			g.In = append(g.In, v)
		}
	}
	out, _ := infer.Out(n, values)
	g.Nodes, g.Out = []api.Node{n}, []api.Value{out}
	if asInits {
		tensors = nil
	}
	return g, tensors
}

// Each operator alone, told as a file, loaded and run.
func TestOperatorsAlone(t *testing.T) {
	r := rand.New(rand.NewSource(241))
	ran := map[string]int{}
	for _, line := range strings.Split(spell.Others("")+"\nGather | i 2: 1 2, i 2: 1 0 |\nDiv | i 2: 9 8, i 2: 3 -3 |", "\n") {
		for i := range 20 {
			g, in := alone(line, i%2 == 0)
			if i > 1 {
				in = sample.Inputs(r.Intn, g)
			}
			if expectMeaning(t, r, g, in) == api.OK {
				ran[g.Nodes[0].Op]++
			}
		}
	}
	for _, op := range strings.Fields(sample.All) {
		if ran[op] == 0 {
			t.Errorf("%s did not run", op)
		}
	}
}

// Each operator among such as make its inputs.
func TestOperatorsAmongOthers(t *testing.T) {
	r := rand.New(rand.NewSource(242))
	for _, op := range strings.Fields(sample.All) {
		for range 10 {
			g := sample.Graph(r.Intn, 3, op+" "+op+" Identity Neg Cast Reshape")
			expectMeaning(t, r, g, sample.Inputs(r.Intn, g))
		}
	}
}

// expectMeaning tells a graph as a file of any form, loads it with each mask, and runs it by any size in any order: what comes out is what the graph means. It answers the error of that.
func expectMeaning(t *testing.T, r *rand.Rand, g api.Graph, in []api.Tensor) api.Errno {
	t.Helper()
	want, f := sem.Eval(g, in)
	s := told.File(r.Intn, g)
	for mask := range 16 {
		p, e := load.Load(s, mask)
		if e != api.OK || load.Check(p) != api.OK {
			t.Fatalf("P4: %v with %d: %v, %d", g, mask, p, e)
		}
		size, picks := somePieces(r)
		if got, e := Run(p, in, size, picks); e != f || !slices.EqualFunc(got, want, spell.Same) {
			t.Fatalf("P1: %v of %v, with %d, by %d, picked %d: %v, %d, not %v, %d", g, in, mask, size, picks, got, e, want, f)
		}
	}
	return f
}

// somePieces are a size of pieces, and picks.
func somePieces(r *rand.Rand) (int, []int) {
	size := []int{1, 1, 1 + r.Intn(5), 1 + r.Intn(50), api.MaxElems}[r.Intn(5)]
	picks := make([]int, r.Intn(30))
	for i := range picks {
		picks[i] = int(r.Uint64()) >> r.Intn(64)
	}
	return size, picks
}
