package rules

import (
	"math"
	"math/rand"
	"slices"
	"strconv"
	"strings"
	"testing"

	"mandrel/api"
	"mandrel/arena"
	"mandrel/conv"
	"mandrel/elem"
	"mandrel/fit"
	"mandrel/fold"
	"mandrel/fuse"
	"mandrel/graph"
	"mandrel/infer"
	"mandrel/layout"
	"mandrel/linear"
	"mandrel/live"
	"mandrel/load"
	"mandrel/move"
	"mandrel/passes"
	"mandrel/pb"
	"mandrel/reduce"
	"mandrel/runner"
	"mandrel/sample"
	"mandrel/sched"
	"mandrel/sem"
	"mandrel/spell"
	"mandrel/tile"
	"mandrel/told"
)

// doers are the layers that do nodes, of those that are built.
func doers() []call {
	return []call{of("elem.Do", elem.Do), of("move.Do", move.Do), of("reduce.Do", reduce.Do), of("linear.Do", linear.Do), of("conv.Do", conv.Do), of("sem.Do", sem.Do)}
}

// graphPasses are the passes, each by itself, and all that a mask has of them.
func graphPasses() []call {
	l := []call{of("fold.Fold", fold.Fold), of("fold.Dead", fold.Dead), of("fuse.Fuse", fuse.Fuse), of("layout.Plain", layout.Plain)}
	for mask := range api.PassAll + 1 {
		run := func(g api.Graph) (api.Graph, api.Errno) { return passes.Run(g, mask) }
		l = append(l, of("passes.Run with "+strconv.Itoa(mask), run))
	}
	return l
}

func wildNumber(r *rand.Rand) int64 {
	l := []int64{0, 1, 2, 3, -1, -2, 7, 256, 65536, 65537, 1 << 31, 1 << 32, math.MaxInt64, math.MinInt64, api.NaN, api.NaN + 1}
	return l[r.Intn(len(l))]
}

// wildAttr changes something of an attribute, whose lists are its own.
func wildAttr(r *rand.Rand, a *api.Attr) {
	switch r.Intn(6) {
	case 0:
		a.Kind = r.Intn(9)
	case 1:
		a.I, a.F = wildNumber(r), wildNumber(r)
	case 2:
		a.Ints = append(a.Ints, wildNumber(r))
	case 3:
		a.Name = []string{"axis", "axes", "keepdims", "epsilon", "alpha", "transA", "then", "", "strides", "pads", "dilations", "group", "kernel_shape"}[r.Intn(13)]
	case 4:
		a.T = wildTensor(r, a.T)
	default:
		if len(a.Ints) > 0 {
			a.Ints[r.Intn(len(a.Ints))] = wildNumber(r)
		}
	}
}

// wildTensor is one with something changed; its lists are its own.
func wildTensor(r *rand.Rand, t api.Tensor) api.Tensor {
	t.Dims, t.Data = slices.Clone(t.Dims), slices.Clone(t.Data)
	switch r.Intn(6) {
	case 0:
		t.Type = r.Intn(11)
	case 1:
		t.Dims = append(t.Dims, 1)
	case 2:
		t.Dims = append(t.Dims, int(int32(wildNumber(r))))
	case 3:
		t.Data = append(t.Data, wildNumber(r))
	case 4:
		if len(t.Dims) > 0 {
			t.Dims = t.Dims[1:]
		}
	default:
		if len(t.Data) > 0 {
			t.Data[r.Intn(len(t.Data))] = wildNumber(r)
		}
	}
	return t
}

// wildNode is a node of a line of spell.Others, with some things changed.
func wildNode(r *rand.Rand, line string) (api.Node, []api.Tensor) {
	part := strings.Split(line, "|")
	in := spell.Tensors(part[1])
	n := spell.Op(part[0], len(in))
	for range r.Intn(4) {
		switch r.Intn(5) {
		case 0:
			n.Attrs = append(n.Attrs, api.Attr{})
			wildAttr(r, &n.Attrs[len(n.Attrs)-1])
		case 1:
			if len(n.Attrs) > 0 {
				wildAttr(r, &n.Attrs[r.Intn(len(n.Attrs))])
			}
		case 2:
			in = in[:r.Intn(len(in)+1)]
		case 3:
			n.In = append(n.In, "x")
			in = append(in, wildTensor(r, spell.Tensor("f: 1")))
		default:
			if len(in) > 0 {
				i := r.Intn(len(in))
				in[i] = wildTensor(r, in[i])
			}
		}
	}
	return n, in
}

// R1: no node and no tensors make a layer panic, and what comes out may be.
func TestWildNodes(t *testing.T) {
	r := rand.New(rand.NewSource(1))
	lines := strings.Split(spell.Others(""), "\n")
	done := 0
	for _, c := range doers() {
		for _, line := range lines {
			for range 300 {
				n, in := wildNode(r, line)
				out, e := c.do.(doNode)(n, in)
				if e == api.OK && pb.Check(out) != api.OK || e != api.OK && !spell.Same(out, api.Tensor{}) {
					t.Fatalf("%s of %v, %v: %v, %d", c.name, n, in, out, e)
				}
				if e == api.OK {
					done++
				}
			}
		}
	}
	if done < 1000 {
		t.Errorf("only %d of them were done", done)
	}
}

// wildGraph changes some things of a graph, whose nodes' and values' lists are its own.
func wildGraph(r *rand.Rand, g *api.Graph) {
	for range r.Intn(4) {
		switch r.Intn(8) {
		case 0:
			g.Out = append(g.Out, api.Value{Name: "v1", Type: wildType(r)})
		case 1:
			g.In = append(g.In, api.Value{Name: "x0", Type: wildType(r)})
		case 2:
			g.Inits = append(g.Inits, api.Named{Name: "w", T: wildTensor(r, spell.Tensor("f 1: 1"))})
		case 3:
			g.Nodes = append(g.Nodes, api.Node{Op: "Neg", In: []string{"v3"}, Out: "v2"})
		case 4:
			if len(g.Nodes) > 0 {
				n := &g.Nodes[r.Intn(len(g.Nodes))]
				n.Op = strings.Fields(sample.All + " What")[r.Intn(49)]
			}
		case 5:
			if len(g.Nodes) > 0 {
				n := &g.Nodes[r.Intn(len(g.Nodes))]
				n.Attrs = append(n.Attrs, api.Attr{})
				wildAttr(r, &n.Attrs[len(n.Attrs)-1])
			}
		case 6:
			if len(g.Nodes) > 0 {
				n := &g.Nodes[r.Intn(len(g.Nodes))]
				n.In = append(n.In, n.Out)
			}
		default:
			g.Out = g.Out[:r.Intn(len(g.Out)+1)]
		}
	}
}

func wildType(r *rand.Rand) int { return r.Intn(11) }

// wildMask is one of 64 bits, or of fewer.
func wildMask(r *rand.Rand) int { return int(r.Uint64()) >> r.Intn(64) }

// R1: no graph and no tensors make a run panic, and what comes out may be.
func TestWildGraphs(t *testing.T) {
	r := rand.New(rand.NewSource(2))
	answers := map[api.Errno]int{}
	for range 5000 {
		g := sample.Graph(r.Intn, r.Intn(8), sample.All)
		in := sample.Inputs(r.Intn, g)
		wildGraph(r, &g)
		for i := range in {
			if r.Intn(8) == 0 {
				in[i] = wildTensor(r, in[i])
			}
		}
		out, e := sem.Eval(g, in)
		answers[e]++
		if e != api.OK && len(out) != 0 || e == api.OK && len(out) != len(g.Out) {
			t.Fatalf("R3: %v of %v: %v, %d", g, in, out, e)
		}
		for _, x := range out {
			if pb.Check(x) != api.OK {
				t.Fatalf("P14.3: %v of %v: %v", g, in, out)
			}
		}
	}
	for _, e := range []api.Errno{api.OK, api.ErrArg, api.ErrGraph, api.ErrUnsupported} {
		if answers[e] < 100 {
			t.Errorf("errors: %v", answers)
		}
	}
}

// R1: no graph makes a pass panic; it is refused as infer.All refuses it, or what comes out may be.
func TestWildPasses(t *testing.T) {
	r := rand.New(rand.NewSource(4))
	answers := map[api.Errno]int{}
	for range 3000 {
		g := sample.Graph(r.Intn, r.Intn(8), sample.All)
		wildGraph(r, &g)
		_, want := infer.All(g)
		answers[want]++
		for _, c := range graphPasses() {
			h, e := c.do.(graphPass)(g)
			if e != want || e != api.OK && !spell.SameGraphs(h, api.Graph{}) {
				t.Fatalf("R3: %s of %v: %v, %d, not %d", c.name, g, h, e, want)
			}
			if _, e := infer.All(h); want == api.OK && e != api.OK {
				t.Fatalf("P3: %s of %v: %v, which is refused: %d", c.name, g, h, e)
			}
		}
		if mask := wildMask(r); mask < 0 || mask > 15 {
			if h, e := passes.Run(g, mask); e != api.ErrArg || !spell.SameGraphs(h, api.Graph{}) {
				t.Fatalf("R3: passes.Run of %v, %d: %v, %d", g, mask, h, e)
			}
		}
	}
	for _, e := range []api.Errno{api.OK, api.ErrGraph, api.ErrUnsupported} {
		if answers[e] < 100 {
			t.Errorf("errors: %v", answers)
		}
	}
}

// R1: no graph makes a layer panic that says where values lie; it is refused as graph.Check or infer.All refuses it, or the layout fits it.
func TestWildLayouts(t *testing.T) {
	r := rand.New(rand.NewSource(5))
	answers := map[api.Errno]int{}
	for range 3000 {
		g := sample.Graph(r.Intn, r.Intn(8), sample.All)
		wildGraph(r, &g)
		want := graph.Check(g)
		a, b := int(wildNumber(r)), int(wildNumber(r))
		rows, e := live.Before(g)
		is, f := live.Apart(g, a, b)
		if e != want || e != api.OK && len(rows) != 0 || f != want && f != api.ErrArg || f != api.OK && is {
			t.Fatalf("R3: %v: %v, %d; %t, %d, not %d", g, rows, e, is, f, want)
		}
		_, want = infer.All(g)
		answers[want]++
		l, e := arena.Plan(g)
		if e != want || e != api.OK && (l.Size != 0 || len(l.Places)+len(l.Pairs) != 0) {
			t.Fatalf("R3: %v: %v, %d, not %d", g, l, e, want)
		}
		if e == api.OK && len(fit.Broken(g, l)) > 0 {
			t.Fatalf("P20.1: %v: %v does not fit", g, l)
		}
		v := api.Value{Type: wildType(r), Dims: wildTensor(r, spell.Tensor("f 2: 1 2")).Dims}
		if n, e := live.Width(v); e != api.OK && n != 0 || e == api.OK && n != fit.Width(v) {
			t.Fatalf("R3: %v: %d, %d", v, n, e)
		}
	}
	for _, e := range []api.Errno{api.OK, api.ErrGraph, api.ErrUnsupported} {
		if answers[e] < 100 {
			t.Errorf("errors: %v", answers)
		}
	}
}

// R1: no node, no tensors and no ends make a part panic.
func TestWildParts(t *testing.T) {
	r := rand.New(rand.NewSource(6))
	answers := map[api.Errno]int{}
	for _, line := range strings.Split(spell.Others(""), "\n") {
		for range 300 {
			n, in := wildNode(r, line)
			lo, hi := r.Intn(2), 1+r.Intn(2)
			if r.Intn(4) == 0 {
				lo, hi = int(wildNumber(r)), int(wildNumber(r))
			}
			l, e := tile.Part(n, in, lo, hi)
			answers[e]++
			if e != api.OK && len(l) > 0 || e == api.OK && len(l) != hi-lo {
				t.Fatalf("R3: %v of %v, %d to %d: %d, %d", n, in, lo, hi, l, e)
			}
			node, count, size := int(wildNumber(r)), int(wildNumber(r)), int(wildNumber(r))
			steps, e := tile.Steps(node, count, size)
			if e != api.OK && len(steps) > 0 || e == api.OK && len(steps) != (count+size-1)/size {
				t.Fatalf("R3: %d, %d, %d: %d steps, %d", node, count, size, len(steps), e)
			}
		}
	}
	for _, e := range []api.Errno{api.OK, api.ErrArg, api.ErrGraph, api.ErrUnsupported, api.ErrLimit, api.ErrDivide, api.ErrIndex} {
		if answers[e] < 5 {
			t.Errorf("errors: %v", answers)
		}
	}
}

// wildLayout is one with something changed; its lists are its own.
func wildLayout(r *rand.Rand, l api.Layout) api.Layout {
	l.Places, l.Pairs = slices.Clone(l.Places), slices.Clone(l.Pairs)
	switch r.Intn(6) {
	case 0:
		l.Size = int(wildNumber(r))
	case 1:
		l.Places = append(l.Places, api.Place{At: int(wildNumber(r)), Len: int(wildNumber(r))})
	case 2:
		l.Pairs = append(l.Pairs, api.Pair{New: "v1", Old: "v2"})
	default:
		if len(l.Places) == 0 {
			l.Size = -8
			break
		}
		p := &l.Places[r.Intn(len(l.Places))]
		p.At += int(wildNumber(r))
		if r.Intn(2) == 0 {
			p.Len += int(wildNumber(r))
		}
	}
	return l
}

// R1: no graph, no layout, no inputs, no size and no steps make a machine panic, or go on for ever.
func TestWildMachines(t *testing.T) {
	r := rand.New(rand.NewSource(7))
	answers := map[api.Errno]int{}
	for range 4000 {
		g := sample.Graph(r.Intn, r.Intn(6), sample.All)
		in := sample.Inputs(r.Intn, g)
		l := fit.Some(r.Intn, g)
		size := 1 + r.Intn(50)
		switch r.Intn(5) {
		case 0:
			wildGraph(r, &g)
		case 1:
			l = wildLayout(r, l)
		case 2:
			size = int(wildNumber(r))
		case 3:
			if len(in) > 0 {
				in[0] = wildTensor(r, in[0])
			}
		}
		m, e := sched.New(g, l, in, size)
		answers[e]++
		if (m == nil) != (e != api.OK) {
			t.Fatalf("R3: %v, %v of %v by %d: %v, %d", g, l, in, size, m, e)
		}
		runWild(t, r, m)
	}
	for _, e := range []api.Errno{api.OK, api.ErrArg, api.ErrGraph, api.ErrUnsupported} {
		if answers[e] < 30 {
			t.Errorf("errors: %v", answers)
		}
	}
}

// runWild does steps, those that may be done and others, until no one may be.
func runWild(t *testing.T, r *rand.Rand, m *sched.Machine) {
	t.Helper()
	for steps := m.Enabled(); len(steps) > 0; steps = m.Enabled() {
		wild := api.Step{Node: int(wildNumber(r)), Lo: int(wildNumber(r)), Hi: int(wildNumber(r))}
		m.Do(wild)
		m.Touches(wild)
		m.Do(steps[r.Intn(len(steps))])
		if out, e := m.Out(); e != api.OK && len(out) > 0 {
			t.Fatalf("R3: %v, %d", out, e)
		}
	}
	if out, e := m.Out(); e != api.OK && len(out) > 0 || m == nil && e != api.ErrArg {
		t.Fatalf("R3: %v, %d", out, e)
	}
	typ, data, b := wildType(r), []int64{wildNumber(r), wildNumber(r)}, []byte(strconv.FormatInt(wildNumber(r), 10))
	if b, e := sched.Put(typ, data); e != api.OK && len(b) > 0 {
		t.Fatalf("R3: %x, %d", b, e)
	}
	if l, e := sched.Get(typ, b); e != api.OK && len(l) > 0 {
		t.Fatalf("R3: %d, %d", l, e)
	}
}

// R1: no bytes and no mask make loading panic, or go on for ever; what is refused is refused by a class, and what is not may be.
func TestWildFiles(t *testing.T) {
	r := rand.New(rand.NewSource(8))
	answers := map[api.Errno]int{}
	for i := range 6000 {
		g := sample.Graph(r.Intn, r.Intn(6), sample.All)
		wildGraph(r, &g)
		s := told.File(r.Intn, g)
		if i%3 == 0 {
			s = told.Spoilt(r.Intn, s)
		}
		mask := r.Intn(16)
		if i%10 == 0 {
			mask = wildMask(r)
		}
		p, e := load.Load(s, mask)
		answers[e]++
		isNone := len(p.Graph.Nodes)+len(p.Order)+len(p.Values)+len(p.Layout.Places)+p.Layout.Size == 0
		if e != api.OK && !isNone || e == api.OK && load.Check(p) != api.OK || e > api.ErrLimit || (e == api.ErrArg) != (mask < 0 || mask > 15) {
			t.Fatalf("P4: %x with %d: %v, %d", s, mask, p, e)
		}
	}
	for _, e := range []api.Errno{api.OK, api.ErrArg, api.ErrWire, api.ErrGraph, api.ErrUnsupported} {
		if answers[e] < 100 {
			t.Errorf("errors: %v", answers)
		}
	}
}

// wildPlan changes something of a plan, whose lists are its own.
func wildPlan(r *rand.Rand, p *api.Plan) {
	switch r.Intn(5) {
	case 0:
		wildGraph(r, &p.Graph)
	case 1:
		p.Layout = wildLayout(r, p.Layout)
	case 2:
		p.Order = append(p.Order, int(wildNumber(r)))
	case 3:
		if len(p.Order) > 0 {
			p.Order[r.Intn(len(p.Order))] = int(wildNumber(r))
		}
	default:
		v := &p.Values[r.Intn(len(p.Values))]
		v.Type, v.Dims = wildType(r), append(v.Dims, int(wildNumber(r)))
	}
}

// R1: no plan, no inputs, no size and no picks make a run panic, or go on for ever.
func TestWildPlans(t *testing.T) {
	r := rand.New(rand.NewSource(9))
	answers := map[api.Errno]int{}
	for range 5000 {
		g := sample.Graph(r.Intn, r.Intn(6), sample.All)
		in := sample.Inputs(r.Intn, g)
		p, e := load.Load(told.File(r.Intn, g), r.Intn(16))
		if e != api.OK {
			t.Fatalf("P4: %v: %d", g, e)
		}
		size, picks := 1+r.Intn(9), make([]int, r.Intn(4))
		for i := range picks {
			picks[i] = int(wildNumber(r))
		}
		switch r.Intn(6) {
		case 0, 1:
			wildPlan(r, &p)
		case 2:
			size = int(wildNumber(r))
		case 3:
			if len(in) > 0 {
				in[0] = wildTensor(r, in[0])
			}
		}
		check := load.Check(p)
		out, e := runner.Run(p, in, size, picks)
		answers[e]++
		if e != api.OK && len(out) > 0 || check != api.OK && e != api.ErrArg || e == api.OK && len(out) != len(p.Graph.Out) {
			t.Fatalf("R3: %v of %v by %d, picked %d: %v, %d", p, in, size, picks, out, e)
		}
		for _, x := range out {
			if pb.Check(x) != api.OK {
				t.Fatalf("P14.3: %v of %v: %v", p, in, out)
			}
		}
	}
	if answers[api.OK] < 1000 || answers[api.ErrArg] < 1000 {
		t.Errorf("errors: %v", answers)
	}
}
