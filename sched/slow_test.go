package sched

import (
	"bytes"
	"math/rand"
	"slices"
	"strings"
	"sync"
	"testing"

	"mandrel/api"
	"mandrel/arena"
	"mandrel/fit"
	"mandrel/sample"
	"mandrel/sem"
	"mandrel/spell"
	"mandrel/tile"
)

// model is a machine by the document's words, without an arena: each value is kept by itself.
type model struct {
	g      api.Graph
	l      api.Layout
	nodes  []api.Node
	values []api.Value
	steps  []api.Step
	done   map[api.Step]int
	erred  map[int]api.Errno
	made   map[string]*api.Tensor
}

func newModel(g api.Graph, l api.Layout, in []api.Tensor, size int) *model {
	m := &model{g: g, l: l, nodes: fit.Nodes(g), values: fit.Values(g), done: map[api.Step]int{}, erred: map[int]api.Errno{}, made: map[string]*api.Tensor{}}
	for i := range in {
		m.made[g.In[i].Name] = &in[i]
	}
	for i := range g.Inits {
		m.made[g.Inits[i].Name] = &g.Inits[i].T
	}
	for i, v := range m.values {
		count := spell.Size(v.Dims)
		m.made[v.Name] = &api.Tensor{Type: v.Type, Dims: v.Dims, Data: make([]int64, count)}
		for lo := 0; lo < count; lo += size {
			m.steps = append(m.steps, api.Step{Node: i, Lo: lo, Hi: min(count, lo+size)})
		}
	}
	return m
}

func (m *model) isWhole(i int) bool {
	for _, s := range m.steps {
		if s.Node == i && m.done[s] == 0 {
			return false
		}
	}
	return m.erred[i] == api.OK
}

func (m *model) may(s api.Step) bool {
	if !slices.Contains(m.steps, s) || m.done[s] > 0 || m.erred[s.Node] != api.OK {
		return false
	}
	for i, n := range m.nodes {
		if slices.Contains(m.nodes[s.Node].In, n.Out) && !m.isWhole(i) {
			return false
		}
	}
	return true
}

func (m *model) enabled() []api.Step {
	return slices.DeleteFunc(slices.Clone(m.steps), func(s api.Step) bool { return !m.may(s) })
}

func (m *model) do(s api.Step) {
	m.done[s]++
	n := m.nodes[s.Node]
	var in []api.Tensor
	for _, name := range n.In {
		in = append(in, *m.made[name])
	}
	part, e := tile.Part(n, in, s.Lo, s.Hi)
	if e != api.OK && m.erred[s.Node] == api.OK {
		m.erred[s.Node] = e
	}
	copy(m.made[n.Out].Data[s.Lo:s.Hi], part)
}

func (m *model) out() ([]api.Tensor, api.Errno) {
	if len(m.enabled()) > 0 {
		return nil, api.ErrArg
	}
	for i := range m.nodes {
		if m.erred[i] != api.OK {
			return nil, m.erred[i]
		}
	}
	var l []api.Tensor
	for _, o := range m.g.Out {
		l = append(l, *m.made[o.Name])
	}
	return l, api.OK
}

// touches is asked of steps that there are.
func (m *model) touches(s api.Step) ([]api.Place, []api.Place) {
	each := func(i int) int { return fit.Width(m.values[i]) / spell.Size(m.values[i].Dims) }
	cut := func(i int) api.Place {
		return api.Place{Name: m.values[i].Name, At: m.l.Places[i].At + s.Lo*each(i), Len: (s.Hi - s.Lo) * each(i)}
	}
	n := m.nodes[s.Node]
	inPlace := slices.Contains(strings.Fields("Identity Neg Abs Not Relu Sqrt Floor Exp Sigmoid Tanh Reshape Squeeze Unsqueeze Flatten"), n.Op)
	var reads []api.Place
	for _, name := range n.In {
		for i, v := range m.values {
			p := m.l.Places[i]
			if inPlace {
				p = cut(i)
			}
			if v.Name == name && !slices.Contains(reads, p) {
				reads = append(reads, p)
			}
		}
	}
	return reads, []api.Place{cut(s.Node)}
}

// someMachine is of any graph, any layout that fits it, inputs such as it takes, and any size.
func someMachine(t *testing.T, r *rand.Rand, operators string) (*Machine, *model, []api.Tensor) {
	t.Helper()
	g := sample.Graph(r.Intn, r.Intn(10), operators)
	in := sample.Inputs(r.Intn, g)
	l := fit.Some(r.Intn, g)
	if r.Intn(3) == 0 {
		l, _ = arena.Plan(g)
	}
	size := []int{1 + r.Intn(4), 5 + r.Intn(20), api.MaxElems}[r.Intn(3)]
	m, e := New(g, l, in, size)
	if e != api.OK {
		t.Fatalf("P22.2: %v, %v: %d", g, l, e)
	}
	return m, newModel(g, l, in, size), in
}

// someStep is one that may be done, or another one.
func someStep(r *rand.Rand, m *model) api.Step {
	s := api.Step{Node: r.Intn(9) - 1, Lo: r.Intn(9) - 2, Hi: r.Intn(9) - 1}
	if len(m.steps) > 0 && r.Intn(3) > 0 {
		s = m.steps[r.Intn(len(m.steps))]
	}
	if r.Intn(6) == 0 {
		s.Hi += r.Intn(3) - 1
	}
	return s
}

const erring = "Div Gather Add Neg Abs Reshape Cast Concat"

// At each time the machine answers what the model does, in whatever order steps are done; at the end that is what the graph means.
func TestAgainstTheModel(t *testing.T) {
	r := rand.New(rand.NewSource(22))
	met := map[string]int{}
	for i := range 2500 {
		m, w, in := someMachine(t, r, []string{sample.All, erring}[i%2])
		pick := picker(r)
		many := 0
		for steps := w.enabled(); len(steps) > 0; steps = w.enabled() {
			compare(t, r, m, w)
			s := steps[pick(len(steps))]
			if e := m.Do(s); e != api.OK {
				t.Fatalf("P22.3: %v: %d", s, e)
			}
			w.do(s)
			many++
		}
		compare(t, r, m, w)
		got, e := m.Out()
		want, f := sem.Eval(w.g, in)
		if e != f || !slices.EqualFunc(got, want, spell.Same) || many > len(w.steps) || e == api.OK && many != len(w.steps) {
			t.Fatalf("P22.6: %v, %v of %v: %v, %d, not %v, %d; %d of %d steps", w.g, w.l, in, got, e, want, f, many, len(w.steps))
		}
		met[spell.Word(e)]++
		met["pairs"] += len(w.l.Pairs)
		if len(w.erred) > 1 {
			met["several errors"]++
		}
	}
	for word, least := range map[string]int{"": 1000, "divide": 50, "index": 50, "pairs": 200, "several errors": 20} {
		if met[word] < least {
			t.Errorf("met: %v", met)
		}
	}
}

// picker picks the first one, the last one or any, for the whole of a run.
func picker(r *rand.Rand) func(int) int {
	return []func(int) int{func(int) int { return 0 }, func(n int) int { return n - 1 }, r.Intn, r.Intn}[r.Intn(4)]
}

// compare asks both of them everything, and the machine for steps that may not be done.
func compare(t *testing.T, r *rand.Rand, m *Machine, w *model) {
	t.Helper()
	if got := m.Enabled(); !slices.Equal(got, w.enabled()) {
		t.Fatalf("P22.3: %v may be done, not %v", got, w.enabled())
	}
	got, e := m.Out()
	want, f := w.out()
	if e != f || !slices.EqualFunc(got, want, spell.Same) {
		t.Fatalf("P22.5: %v, %d, not %v, %d", got, e, want, f)
	}
	for range 3 {
		s := someStep(r, w)
		reads, writes := m.Touches(s)
		if !slices.Contains(w.steps, s) {
			if len(reads)+len(writes) > 0 {
				t.Fatalf("P22.4: %v: %v, %v", s, reads, writes)
			}
		} else if wantReads, wantWrites := w.touches(s); !slices.Equal(reads, wantReads) || !slices.Equal(writes, wantWrites) {
			t.Fatalf("P22.4: %v of %v, %v: %v, %v, not %v, %v", s, w.g, w.l, reads, writes, wantReads, wantWrites)
		}
		if w.may(s) {
			continue
		}
		if e := m.Do(s); e != api.ErrArg {
			t.Fatalf("P22.3: %v: %d", s, e)
		}
	}
}

func meet(a, b []api.Place) bool {
	return slices.ContainsFunc(a, func(p api.Place) bool {
		return slices.ContainsFunc(b, func(q api.Place) bool { return p.At < q.At+q.Len && q.At < p.At+p.Len })
	})
}

// Of two steps that may be done at one time neither writes what the other one reads or writes.
func TestNoRace(t *testing.T) {
	r := rand.New(rand.NewSource(227))
	asked, shared := 0, 0
	for i := range 1200 {
		m, _, _ := someMachine(t, r, []string{sample.All, "Neg Abs Add Reshape Not Equal Concat Slice"}[i%2])
		pick := picker(r)
		for steps := m.Enabled(); len(steps) > 0; steps = m.Enabled() {
			for range 20 {
				a, b := steps[r.Intn(len(steps))], steps[r.Intn(len(steps))]
				if a == b {
					continue
				}
				readsA, writesA := m.Touches(a)
				readsB, writesB := m.Touches(b)
				if meet(writesA, writesB) || meet(writesA, readsB) || meet(readsA, writesB) {
					t.Fatalf("P22.7: %v and %v: %v %v, %v %v", a, b, readsA, writesA, readsB, writesB)
				}
				asked++
				if meet(readsA, readsB) {
					shared++
				}
			}
			m.Do(steps[pick(len(steps))])
		}
	}
	if asked < 10000 || shared < 1000 {
		t.Errorf("asked %d times, %d read the same", asked, shared)
	}
}

// A step reads no other bytes than it tells, and writes no others: with all the rest spoilt, it does the same.
func TestWhatIsTouched(t *testing.T) {
	r := rand.New(rand.NewSource(224))
	spoilt := 0
	for i := range 1200 {
		m, _, _ := someMachine(t, r, []string{sample.All, "Neg Abs Add Reshape Not Equal Concat Slice"}[i%2])
		for steps := m.Enabled(); len(steps) > 0; steps = m.Enabled() {
			s := steps[r.Intn(len(steps))]
			reads, writes := m.Touches(s)
			before := slices.Clone(m.arena)
			spoil(m.arena, reads)
			garbage := slices.Clone(m.arena)
			if e := m.Do(s); e != api.OK {
				t.Fatalf("P22.3: %v: %d", s, e)
			}
			made := slices.Clone(m.arena)
			take(garbage, made, writes)
			if !bytes.Equal(garbage, made) {
				t.Fatalf("P22.4: %v writes beside %v", s, writes)
			}
			erred := m.jobs[s.Node].firstError() != api.OK
			copy(m.arena, before)
			if !erred {
				take(m.arena, made, writes)
				again(t, m, s, before)
			}
			spoilt++
		}
	}
	if spoilt < 3000 {
		t.Errorf("%d steps", spoilt)
	}
}

// spoil leaves of an arena what is read alone.
func spoil(arena []byte, reads []api.Place) {
	kept := slices.Clone(arena)
	for i := range arena {
		arena[i] = 0xa5
	}
	take(arena, kept, reads)
}

// take copies some places from one arena to another one.
func take(to, from []byte, places []api.Place) {
	for _, p := range places {
		copy(to[p.At:p.At+p.Len], from[p.At:p.At+p.Len])
	}
}

// again holds what a step has written against what it makes of an arena that is not spoilt.
func again(t *testing.T, m *Machine, s api.Step, before []byte) {
	t.Helper()
	j := m.jobs[s.Node]
	whole := &Machine{jobs: m.jobs, number: m.number, given: m.given, arena: before, size: m.size}
	want, e := tile.Part(j.node, whole.inputs(j, s), s.Lo, s.Hi)
	p := j.place(s.Lo, s.Hi)
	got, f := Get(j.value.Type, m.arena[p.At:p.At+p.Len])
	if e != api.OK || f != api.OK || !slices.Equal(got, want) {
		t.Fatalf("P22.4: %v: %d, %d of a spoilt arena, %d, %d of a whole one", s, got, f, want, e)
	}
}

// Steps that may be done at one time are done so.
func TestAtOneTime(t *testing.T) {
	r := rand.New(rand.NewSource(226))
	for i := range 400 {
		m, w, in := someMachine(t, r, []string{sample.All, erring}[i%2])
		for steps := m.Enabled(); len(steps) > 0; steps = m.Enabled() {
			var all sync.WaitGroup
			for _, s := range append(steps, steps[0]) {
				all.Go(func() { m.Do(s) })
			}
			all.Wait()
		}
		got, e := m.Out()
		if want, f := sem.Eval(w.g, in); e != f || !slices.EqualFunc(got, want, spell.Same) {
			t.Fatalf("P22.6: %v: %v, %d, not %v, %d", w.g, got, e, want, f)
		}
	}
}

// R5: what is handed in may be changed behind New, and what is answered behind each call.
func TestNothingIsKept(t *testing.T) {
	r := rand.New(rand.NewSource(5))
	for range 500 {
		m, w, in := someMachine(t, r, sample.All)
		want, f := sem.Eval(w.g, in)
		overwrite(w.g, w.l, in)
		for steps := m.Enabled(); len(steps) > 0; steps = m.Enabled() {
			s := steps[r.Intn(len(steps))]
			for i := range steps {
				steps[i] = api.Step{Node: 99, Lo: 99, Hi: 99}
			}
			reads, writes := m.Touches(s)
			for _, p := range [][]api.Place{reads, writes} {
				for i := range p {
					p[i] = api.Place{Name: "?", At: -1, Len: -1}
				}
			}
			if e := m.Do(s); e != api.OK {
				t.Fatalf("R5: %v: %d", s, e)
			}
		}
		got, e := m.Out()
		if e != f || !slices.EqualFunc(got, want, spell.Same) {
			t.Fatalf("R5: %v, %d, not %v, %d", got, e, want, f)
		}
		for _, x := range got {
			clear(x.Data)
			clear(x.Dims)
		}
		if got, e := m.Out(); e != f || !slices.EqualFunc(got, want, spell.Same) {
			t.Fatalf("R5: %v, %d, not %v, %d the second time", got, e, want, f)
		}
	}
}

// overwrite changes all lists of what is handed to New.
func overwrite(g api.Graph, l api.Layout, in []api.Tensor) {
	for _, v := range slices.Concat(g.In, g.Out) {
		clear(v.Dims)
	}
	for _, w := range g.Inits {
		clear(w.T.Dims)
		clear(w.T.Data)
	}
	for _, n := range g.Nodes {
		for _, a := range n.Attrs {
			clear(a.Ints)
			clear(a.T.Dims)
			clear(a.T.Data)
		}
		clear(n.In)
		clear(n.Attrs)
	}
	for _, x := range in {
		clear(x.Dims)
		clear(x.Data)
	}
	clear(g.In)
	clear(g.Out)
	clear(g.Inits)
	clear(g.Nodes)
	clear(l.Places)
	clear(l.Pairs)
	clear(in)
}
