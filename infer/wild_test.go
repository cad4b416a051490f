package infer

import (
	"math"
	"math/rand"
	"strings"
	"testing"

	"mandrel/api"
	"mandrel/graph"
	"mandrel/shape"
	"mandrel/spell"
)

// wildNumbers are near the bounds that the document names, and as far off as may be.
func wildNumbers() []int64 {
	return []int64{0, 1, 2, 3, 4, 6, 7, 9, 99, 100, 101, 65535, 65536, 65537, -1, -2, -3, -7, math.MaxInt32, math.MinInt32, 1 << 32, math.MaxInt64, math.MinInt64, math.MinInt64 + 1, math.MaxInt64 / 2}
}

func wildInts(r *rand.Rand) []int64 {
	l := make([]int64, r.Intn(8))
	for i := range l {
		l[i] = wildNumbers()[r.Intn(len(wildNumbers()))]
	}
	return l
}

// wildNode has an operator of the table, and attributes of its own with any numbers.
func wildNode(r *rand.Rand, op string, inputs int) api.Node {
	n := spell.Op(op, inputs)
	for i := range n.Attrs {
		n.Attrs[i].I, n.Attrs[i].Ints = wildNumbers()[r.Intn(len(wildNumbers()))], wildInts(r)
	}
	names := strings.Fields("axes shape perm starts ends pads strides dilations kernel_shape")
	for range r.Intn(3) {
		a := api.Attr{Name: names[r.Intn(len(names))], Kind: api.AttrInts, Ints: wildInts(r)}
		n.Attrs = append(n.Attrs, a)
		if graph.Check(api.Graph{Nodes: []api.Node{n}}) == api.ErrUnsupported {
			n.Attrs = n.Attrs[:len(n.Attrs)-1]
		}
	}
	return n
}

func TestWildNodes(t *testing.T) {
	r := rand.New(rand.NewSource(11))
	rows := strings.Split(strings.TrimSpace(typeRows), "\n")
	for range 200000 {
		part := strings.Split(rows[r.Intn(len(rows))], "|")
		in := valuesOf(part[1])
		for i := range in {
			if r.Intn(3) == 0 {
				in[i].Dims = someDims(r, r.Intn(7))
			}
		}
		n := wildNode(r, part[0], len(in))
		v, e := Out(n, in)
		if _, wrong := shape.Count(v.Dims); e == api.OK && (wrong != api.OK || !isType(v.Type) || v.Name != n.Out) {
			t.Errorf("P8.1: %v of %v: %v", n, in, v)
		}
		if e != api.OK && (v.Name != "" || v.Type != 0 || len(v.Dims) != 0) {
			t.Errorf("R3: %v of %v: %v beside the error %d", n, in, v, e)
		}
	}
}
