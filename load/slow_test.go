package load

import (
	"math/rand"
	"slices"
	"strconv"
	"testing"

	"mandrel/api"
	"mandrel/fit"
	"mandrel/graph"
	"mandrel/infer"
	"mandrel/passes"
	"mandrel/pb"
	"mandrel/sample"
	"mandrel/sem"
	"mandrel/spell"
	"mandrel/told"
)

// planned is the plan of a file by the document's words, but for its layout, which is free.
func planned(s string, mask int) (api.Plan, api.Errno) {
	if mask < 0 || mask > 15 {
		return api.Plan{}, api.ErrArg
	}
	g, e := pb.Decode(s)
	if e != api.OK {
		return api.Plan{}, e
	}
	if g, e = passes.Run(g, mask); e != api.OK {
		return api.Plan{}, e
	}
	room := 0
	for _, v := range fit.Values(g) {
		room += fit.Rounded(fit.Width(v))
	}
	if room > 67108864 {
		return api.Plan{}, api.ErrLimit
	}
	p := api.Plan{Graph: g}
	p.Order, _ = graph.Order(g)
	p.Values, _ = infer.All(g)
	return p, api.OK
}

// expectLoaded holds what Load answers of a file against the words.
func expectLoaded(t *testing.T, s string, mask int) (api.Plan, api.Errno) {
	t.Helper()
	p, e := Load(s, mask)
	want, f := planned(s, mask)
	if e != f || !spell.SameGraphs(p.Graph, want.Graph) || !slices.Equal(p.Order, want.Order) || !spell.SameValues(p.Values, want.Values) {
		t.Fatalf("P23.1: %x with %d: %v, %d, not %v, %d", s, mask, p, e, want, f)
	}
	if e != api.OK {
		if !isNone(p) {
			t.Fatalf("R3: %x with %d: %v, %d", s, mask, p, e)
		}
		return p, e
	}
	if broken := fit.Broken(p.Graph, p.Layout); len(broken) > 0 || Check(p) != api.OK {
		t.Fatalf("P23.3: %x with %d: %v may not be: %q", s, mask, p, broken)
	}
	return p, e
}

// someGraph has names, too.
func someGraph(r *rand.Rand, operators string) api.Graph {
	g := sample.Graph(r.Intn, r.Intn(10), operators)
	g.Name = "graph"
	for j := range g.Nodes {
		g.Nodes[j].Name = "node " + strconv.Itoa(j)
	}
	return g
}

const erring = " Div Div Gather Gather Neg Add Reshape Transpose Constant Identity"

// Files of all forms, with any mask: the plan by the words, of a graph that means what the file's does.
func TestAgainstTheWords(t *testing.T) {
	r := rand.New(rand.NewSource(23))
	met := map[api.Errno]int{}
	for i := range 400 {
		g := someGraph(r, []string{sample.All, erring}[i%2])
		s := told.File(r.Intn, g)
		in := sample.Inputs(r.Intn, g)
		want, f := sem.Eval(g, in)
		met[f]++
		for mask := range 16 {
			p, e := expectLoaded(t, s, mask)
			if e != api.OK {
				t.Fatalf("P23.3: %v with %d: %d", g, mask, e)
			}
			if got, e := sem.Eval(p.Graph, in); e != f || !slices.EqualFunc(got, want, spell.Same) {
				t.Fatalf("P23.3: %v of %v with %d: %v, %d, not %v, %d", g, in, mask, got, e, want, f)
			}
		}
		mask := int(r.Uint64()) >> r.Intn(64)
		if _, e := expectLoaded(t, s, mask); (e == api.ErrArg) != (mask < 0 || mask > 15) {
			t.Fatalf("P23.1: mask %d: %d", mask, e)
		}
	}
	if met[api.OK] < 200 || met[api.ErrDivide] < 20 || met[api.ErrIndex] < 20 {
		t.Errorf("errors of runs: %v", met)
	}
}

// isClass tells whether a file may be refused so.
func isClass(e api.Errno) bool {
	return e == api.ErrWire || e == api.ErrGraph || e == api.ErrUnsupported || e == api.ErrLimit
}

// Each beginning of a file is refused by a class, or has a plan.
func TestBeginnings(t *testing.T) {
	r := rand.New(rand.NewSource(231))
	met := map[api.Errno]int{}
	for range 40 {
		s := told.File(r.Intn, someGraph(r, sample.All))
		for end := range s {
			_, e := expectLoaded(t, s[:end], r.Intn(16))
			met[e]++
			if e != api.OK && !isClass(e) {
				t.Fatalf("P23.3: %x: %d", s[:end], e)
			}
		}
	}
	if met[api.ErrWire] < 500 || met[api.ErrGraph] < 30 {
		t.Errorf("met: %v", met)
	}
}

// Each byte of a file is another one, each other one of a small file.
func TestOneByteIsAnother(t *testing.T) {
	r := rand.New(rand.NewSource(232))
	met := map[api.Errno]int{}
	try := func(s string, i int, b byte) {
		other := []byte(s)
		other[i] = b
		_, e := expectLoaded(t, string(other), r.Intn(16))
		met[e]++
		if e != api.OK && !isClass(e) {
			t.Fatalf("P23.3: %x: %d", other, e)
		}
	}
	small := file("in x i 2\nz = Softmax(y); axis=0\ny = Cast(x); to=1\nout z f 2")
	for i := range small {
		for b := range 256 {
			try(small, i, byte(b))
		}
	}
	for range 12 {
		s := told.File(r.Intn, someGraph(r, sample.All))
		for i := range s {
			try(s, i, s[i]^1<<r.Intn(8))
		}
	}
	for e, least := range map[api.Errno]int{api.OK: 1000, api.ErrWire: 1000, api.ErrGraph: 1000, api.ErrUnsupported: 1000, api.ErrLimit: 1} {
		if met[e] < least {
			t.Errorf("met: %v", met)
		}
	}
}

// Files that are spoilt in several places, and bytes that were never a file.
func TestSpoiltFiles(t *testing.T) {
	r := rand.New(rand.NewSource(233))
	met := map[api.Errno]int{}
	for i := range 8000 {
		s := told.File(r.Intn, someGraph(r, sample.All))
		for range 1 + r.Intn(3) {
			s = told.Spoilt(r.Intn, s)
		}
		if i%10 == 0 {
			s = randomBytes(r)
		}
		_, e := expectLoaded(t, s, r.Intn(16))
		met[e]++
		if e != api.OK && !isClass(e) {
			t.Fatalf("P23.3: %x: %d", s, e)
		}
	}
	for e, least := range map[api.Errno]int{api.OK: 200, api.ErrWire: 1000, api.ErrGraph: 100, api.ErrUnsupported: 100} {
		if met[e] < least {
			t.Errorf("met: %v", met)
		}
	}
}

func randomBytes(r *rand.Rand) string {
	b := make([]byte, r.Intn(40))
	for i := range b {
		b[i] = []byte{byte(r.Intn(256)), 0x3a, 0x0a, 0x12, 0x5a, 0x62, 0x2a, 0x08, byte(r.Intn(8))}[r.Intn(9)]
	}
	return string(b)
}

// turned is a plan in which one thing is another one. Its lists are its own.
func turned(r *rand.Rand, p api.Plan) api.Plan {
	p.Order, p.Values = slices.Clone(p.Order), slices.Clone(p.Values)
	p.Layout.Places, p.Layout.Pairs = slices.Clone(p.Layout.Places), slices.Clone(p.Layout.Pairs)
	what := r.Intn(9)
	if len(p.Order) == 0 {
		what = 3 + r.Intn(4)
	}
	v := &p.Values[r.Intn(len(p.Values))]
	switch what {
	case 0:
		p.Order[r.Intn(len(p.Order))] = r.Intn(len(p.Order))
	case 1:
		p.Order = p.Order[:r.Intn(len(p.Order))]
	case 2:
		p.Layout.Places[r.Intn(len(p.Order))].At = 8 * r.Intn(20)
	case 3:
		*v = p.Values[r.Intn(len(p.Values))]
	case 4:
		v.Type = r.Intn(10)
	case 5:
		v.Dims = append(slices.Clone(v.Dims), 1+r.Intn(2))
	case 6:
		p.Layout.Size += 8 * (r.Intn(5) - 2)
	case 7:
		p.Layout.Places[r.Intn(len(p.Order))].Len += r.Intn(3)
	default:
		p.Graph.Nodes = slices.Clone(p.Graph.Nodes)
		p.Graph.Nodes[r.Intn(len(p.Graph.Nodes))].Op = "Neg"
	}
	return p
}

// Plans with any layout that fits, one thing of which may be another one.
func TestCheckAgainstTheWords(t *testing.T) {
	r := rand.New(rand.NewSource(234))
	met := map[api.Errno]int{}
	for range 6000 {
		g := sample.Graph(r.Intn, r.Intn(8), sample.All)
		p := api.Plan{Graph: g, Layout: fit.Some(r.Intn, g)}
		p.Order, _ = graph.Order(g)
		p.Values, _ = infer.All(g)
		if e := Check(p); e != api.OK {
			t.Fatalf("P23.2: %v: %d", p, e)
		}
		p = turned(r, p)
		want := api.ErrArg
		order, _ := graph.Order(p.Graph)
		values, e := infer.All(p.Graph)
		if e == api.OK && slices.Equal(order, p.Order) && spell.SameValues(values, p.Values) && len(fit.Broken(p.Graph, p.Layout)) == 0 {
			want = api.OK
		}
		met[want]++
		if e := Check(p); e != want {
			t.Fatalf("P23.2: %v: %d, not %d", p, e, want)
		}
	}
	if met[api.OK] < 500 || met[api.ErrArg] < 3000 {
		t.Errorf("met: %v", met)
	}
}

// As many nodes as may be, in the order of work or not.
func TestGreatFiles(t *testing.T) {
	r := rand.New(rand.NewSource(235))
	g := spell.Graph("in v0 f 2 3\nout z f 3 2\nz = Neg(v999)")
	for i := 999; i > 0; i-- {
		op := []string{"Transpose", "Transpose", "Identity", "Abs"}[i%4]
		g.Nodes = append(g.Nodes, spell.Node("v"+strconv.Itoa(i)+" = "+op+"(v"+strconv.Itoa(i-1)+")"))
	}
	s := told.File(r.Intn, g)
	in := spell.Tensors("f 2 3: 1 -2 3 nan -0 -inf")
	want, _ := sem.Eval(g, in)
	for mask := range 16 {
		p, e := Load(s, mask)
		if e != api.OK || Check(p) != api.OK {
			t.Fatalf("P23.1: 1000 nodes with %d: %d", mask, e)
		}
		if got, e := sem.Eval(p.Graph, in); e != api.OK || !slices.EqualFunc(got, want, spell.Same) {
			t.Errorf("P23.3: 1000 nodes with %d: %v, %d, not %v", mask, got, e, want)
		}
	}
	g.Nodes = append(g.Nodes, spell.Node("more = Neg(v0)"))
	expectRefused(t, told.File(r.Intn, g), api.PassAll, api.ErrLimit)
}
