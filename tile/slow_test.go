package tile

import (
	"math/rand"
	"slices"
	"strings"
	"testing"

	"mandrel/api"
	"mandrel/begin"
	"mandrel/num"
	"mandrel/sample"
	"mandrel/schema"
	"mandrel/sem"
	"mandrel/spell"
)

// byHand is the document's definition of a part, of a node that begins well and of lo and hi that may be.
func byHand(n api.Node, in []api.Tensor, out api.Value, lo, hi int) ([]int64, api.Errno) {
	if n.Op != "Div" || out.Type == api.Float {
		// There is no other place at which num.Binary errs.
		t, e := sem.Do(n, in)
		if e != api.OK {
			return nil, e
		}
		return t.Data[lo:hi], api.OK
	}
	var l []int64
	for i := lo; i < hi; i++ {
		x, e := num.Binary(n.Op, out.Type, shown(in[0], out.Dims, i), shown(in[1], out.Dims, i))
		if e != api.OK {
			return nil, e
		}
		then, _ := schema.Then(n)
		for _, op := range then {
			x, _ = num.Unary(op, out.Type, x)
		}
		l = append(l, x)
	}
	return l, api.OK
}

// shown is the element of a tensor, spread to dims, at the place number i.
func shown(t api.Tensor, dims []int, i int) int64 {
	at := spell.Coords(dims, i)[len(dims)-len(t.Dims):]
	number := 0
	for k, d := range t.Dims {
		number = number*d + at[k]%d
	}
	return t.Data[number]
}

// eachNode goes along nodes of samples, with inputs such as they have: those of nodes that err are left out.
func eachNode(r *rand.Rand, graphs int, operators string, do func(api.Node, []api.Tensor)) {
	for range graphs {
		g := sample.Graph(r.Intn, 1+r.Intn(5), operators)
		v := map[string]*api.Tensor{}
		for i, x := range sample.Inputs(r.Intn, g) {
			v[g.In[i].Name] = &x
		}
		for i := range g.Inits {
			v[g.Inits[i].Name] = &g.Inits[i].T
		}
		for _, n := range g.Nodes {
			var in []api.Tensor
			for _, name := range n.In {
				if v[name] != nil {
					in = append(in, *v[name])
				}
			}
			if len(in) < len(n.In) {
				continue
			}
			do(n, in)
			if t, e := sem.Do(n, in); e == api.OK {
				v[n.Out] = &t
			}
		}
	}
}

func TestAgainstTheDefinition(t *testing.T) {
	r := rand.New(rand.NewSource(21))
	met := map[string]int{}
	for _, operators := range []string{sample.All, "Div Gather Add Concat Neg"} {
		eachNode(r, 3000, operators, func(n api.Node, in []api.Tensor) {
			out, _ := begin.Node(n, in)
			count := spell.Size(out.Dims)
			for range 4 {
				lo := r.Intn(count)
				hi := lo + 1 + r.Intn(count-lo)
				got, e := Part(n, in, lo, hi)
				want, f := byHand(n, in, out, lo, hi)
				if e != f || !slices.Equal(got, want) {
					t.Fatalf("P21.1: %v of %v, %d to %d: %d, %d, not %d, %d", n, in, lo, hi, got, e, want, f)
				}
				_, whole := sem.Do(n, in)
				met[spell.Word(whole)+" "+spell.Word(e)]++
				met[n.Op]++
			}
		})
	}
	for _, word := range append(strings.Fields(sample.All), " ", "divide divide", "divide ", "index index") {
		if met[word] < 50 {
			t.Errorf("%q: %d times", word, met[word])
		}
	}
}

// Whatever the size, the parts are the whole, and one of them errs just if the whole does.
func TestPartsAreTheWhole(t *testing.T) {
	r := rand.New(rand.NewSource(213))
	met := map[string]int{}
	for _, operators := range []string{sample.All, "Div Gather Add Concat Neg"} {
		eachNode(r, 1500, operators, func(n api.Node, in []api.Tensor) {
			whole, want := sem.Do(n, in)
			out, _ := begin.Node(n, in)
			count := spell.Size(out.Dims)
			for _, size := range []int{1, 2, 1 + r.Intn(count), count, count + 1, api.MaxElems} {
				steps, e := Steps(5, count, size)
				if e != api.OK || len(steps) != (count+size-1)/size {
					t.Fatalf("P21.2: %d of %d: %v, %d", count, size, steps, e)
				}
				all, met1 := together(n, in, steps)
				if met1 != want || want == api.OK && !slices.Equal(all, whole.Data) {
					t.Fatalf("P21.3: %v of %v by %d: %d, %d, not %d, %d", n, in, size, all, met1, whole.Data, want)
				}
				met[spell.Word(want)]++
			}
		})
	}
	for _, word := range []string{"", "divide", "index"} {
		if met[word] < 200 {
			t.Errorf("met: %v", met)
		}
	}
}

// together are all parts of a node, and the first error of one of them.
func together(n api.Node, in []api.Tensor, steps []api.Step) ([]int64, api.Errno) {
	var all []int64
	first := api.OK
	for _, s := range steps {
		part, e := Part(n, in, s.Lo, s.Hi)
		if first == api.OK {
			first = e
		}
		all = append(all, part...)
	}
	return all, first
}
