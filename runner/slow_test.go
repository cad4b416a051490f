package runner

import (
	"math/rand"
	"slices"
	"testing"

	"mandrel/api"
	"mandrel/fit"
	"mandrel/graph"
	"mandrel/infer"
	"mandrel/load"
	"mandrel/pb"
	"mandrel/sample"
	"mandrel/sched"
	"mandrel/sem"
	"mandrel/spell"
	"mandrel/told"
)

const erring = "Div Div Gather Gather Neg Add Reshape Transpose Constant Identity"

// P1, P3: graphs of all operators, and such as often err, with each mask, any size and any order.
func TestMeaning(t *testing.T) {
	r := rand.New(rand.NewSource(24))
	met := map[api.Errno]int{}
	for i := range 500 {
		g := sample.Graph(r.Intn, r.Intn(12), []string{sample.All, erring}[i%2])
		met[expectMeaning(t, r, g, sample.Inputs(r.Intn, g))]++
	}
	if met[api.OK] < 200 || met[api.ErrDivide] < 20 || met[api.ErrIndex] < 20 {
		t.Errorf("errors of runs: %v", met)
	}
}

// P1: a file that is spoilt, and has a plan all the same, runs as what it is decoded to means.
func TestMeaningOfSpoiltFiles(t *testing.T) {
	r := rand.New(rand.NewSource(243))
	met, others := map[api.Errno]int{}, 0
	for range 8000 {
		g := sample.Graph(r.Intn, r.Intn(4), sample.All)
		s := told.Spoilt(r.Intn, told.File(r.Intn, g))
		p, e := load.Load(s, r.Intn(16))
		met[e]++
		if e != api.OK {
			continue
		}
		h, _ := pb.Decode(s)
		if !spell.SameGraphs(g, h) {
			others++
		}
		in := sample.Inputs(r.Intn, h)
		want, f := sem.Eval(h, in)
		size, picks := somePieces(r)
		if got, e := Run(p, in, size, picks); e != f || !slices.EqualFunc(got, want, spell.Same) {
			t.Fatalf("P1: %x of %v: %v, %d, not %v, %d", s, in, got, e, want, f)
		}
	}
	if met[api.OK] < 500 || met[api.ErrWire] < 500 || met[api.ErrGraph] < 100 || met[api.ErrUnsupported] < 100 || others < 50 {
		t.Errorf("met: %v, %d of other graphs", met, others)
	}
	for e := range met {
		if e == api.ErrArg || e > api.ErrLimit {
			t.Errorf("P4: refused by %d", e)
		}
	}
}

// Run is held against the words: a machine of the plan, whose steps are picked one after the other.
func TestAgainstTheWords(t *testing.T) {
	r := rand.New(rand.NewSource(244))
	met := map[api.Errno]int{}
	for i := range 1500 {
		g := sample.Graph(r.Intn, r.Intn(8), []string{sample.All, erring}[i%2])
		p := api.Plan{Graph: g, Layout: fit.Some(r.Intn, g)}
		p.Order, _ = graph.Order(g)
		p.Values, _ = infer.All(g)
		in := sample.Inputs(r.Intn, g)
		size, picks := somePieces(r)
		got, e := Run(p, in, size, picks)
		want, f := byTheWords(t, p, in, size, picks)
		met[e]++
		if e != f || !slices.EqualFunc(got, want, spell.Same) {
			t.Fatalf("P24.1: %v of %v by %d, picked %d: %v, %d, not %v, %d", p, in, size, picks, got, e, want, f)
		}
		if want, f := sem.Eval(g, in); e != f || !slices.EqualFunc(got, want, spell.Same) {
			t.Fatalf("P24.2: %v of %v by %d, picked %d: %v, %d, not %v, %d", p, in, size, picks, got, e, want, f)
		}
	}
	if met[api.OK] < 500 || met[api.ErrDivide] < 50 || met[api.ErrIndex] < 50 {
		t.Errorf("met: %v", met)
	}
}

// byTheWords runs a plan that may be, and holds what is touched at one time apart (P2).
func byTheWords(t *testing.T, p api.Plan, in []api.Tensor, size int, picks []int) ([]api.Tensor, api.Errno) {
	t.Helper()
	m, e := sched.New(p.Graph, p.Layout, in, size)
	if e != api.OK {
		t.Fatalf("P22.2: %v: %d", p, e)
	}
	all := 0
	for _, v := range fit.Values(p.Graph) {
		all += (spell.Size(v.Dims) + size - 1) / size
	}
	for did := 0; ; did++ {
		steps := m.Enabled()
		if len(steps) == 0 {
			out, e := m.Out()
			if did > all || e == api.OK && did != all {
				t.Fatalf("P2: %v by %d: %d of %d steps are done", p, size, did, all)
			}
			return out, e
		}
		expectApart(t, m, steps)
		pick := 0
		if len(picks) > 0 {
			pick = picks[did%len(picks)]
		}
		if pick < 0 {
			pick = -1 - pick
		}
		if e := m.Do(steps[pick%len(steps)]); e != api.OK {
			t.Fatalf("P22.3: %v: %d", steps[pick%len(steps)], e)
		}
	}
}

// expectApart looks at two of the steps that may be done at one time, the first one and another one.
func expectApart(t *testing.T, m *sched.Machine, steps []api.Step) {
	t.Helper()
	for _, s := range []api.Step{steps[len(steps)/2], steps[len(steps)-1]} {
		if s == steps[0] {
			continue
		}
		readsA, writesA := m.Touches(steps[0])
		readsB, writesB := m.Touches(s)
		if meet(writesA, writesB) || meet(writesA, readsB) || meet(readsA, writesB) {
			t.Fatalf("P2: %v and %v: %v %v, %v %v", steps[0], s, readsA, writesA, readsB, writesB)
		}
	}
}

func meet(a, b []api.Place) bool {
	return slices.ContainsFunc(a, func(p api.Place) bool {
		return slices.ContainsFunc(b, func(q api.Place) bool { return p.At < q.At+q.Len && q.At < p.At+p.Len })
	})
}

// P2, P5: plans out of files: any order, and an arena with no more bytes than all values together, in which values that are needed at one time lie apart.
func TestOrderAndArena(t *testing.T) {
	r := rand.New(rand.NewSource(245))
	pairs, shared := 0, 0
	for i := range 400 {
		g := sample.Graph(r.Intn, r.Intn(12), []string{sample.All, erring, "Neg Abs Add Reshape Not Equal Concat Slice"}[i%3])
		in := sample.Inputs(r.Intn, g)
		p, e := load.Load(told.File(r.Intn, g), r.Intn(16))
		if e != api.OK {
			t.Fatalf("P4: %v: %d", g, e)
		}
		all := 0
		for _, v := range fit.Values(p.Graph) {
			all += fit.Rounded(fit.Width(v))
		}
		if broken := fit.Broken(p.Graph, p.Layout); len(broken) > 0 || p.Layout.Size > all {
			t.Fatalf("P5: %v: %q, %d of %d bytes", p, broken, p.Layout.Size, all)
		}
		pairs += len(p.Layout.Pairs)
		if p.Layout.Size < all {
			shared++
		}
		size, picks := somePieces(r)
		got, e := byTheWords(t, p, in, size, picks)
		if want, f := sem.Eval(g, in); e != f || !slices.EqualFunc(got, want, spell.Same) {
			t.Fatalf("P2: %v of %v by %d, picked %d: %v, %d, not %v, %d", p, in, size, picks, got, e, want, f)
		}
	}
	if pairs < 50 || shared < 50 {
		t.Errorf("%d pairs, %d arenas are smaller than all values", pairs, shared)
	}
}

// Inputs that another graph takes are refused, whatever the plan.
func TestWrongInputs(t *testing.T) {
	r := rand.New(rand.NewSource(246))
	met := map[api.Errno]int{}
	for range 2000 {
		g := sample.Graph(r.Intn, r.Intn(4), sample.All)
		h := sample.Graph(r.Intn, 0, sample.All)
		p, e := load.Load(told.File(r.Intn, g), r.Intn(16))
		if e != api.OK {
			t.Fatalf("P4: %v: %d", g, e)
		}
		in := sample.Inputs(r.Intn, []api.Graph{g, h}[r.Intn(2)])
		want, f := sem.Eval(g, in)
		met[f]++
		if got, e := Run(p, in, 1+r.Intn(9), nil); e != f || !slices.EqualFunc(got, want, spell.Same) {
			t.Fatalf("P24.1: %v of %v: %v, %d, not %v, %d", g, in, got, e, want, f)
		}
	}
	if met[api.OK] < 500 || met[api.ErrArg] < 500 {
		t.Errorf("met: %v", met)
	}
}
