package rules

import (
	"math"
	"math/rand"
	"slices"
	"strings"
	"testing"

	"mandrel/api"
	"mandrel/elem"
	"mandrel/linear"
	"mandrel/move"
	"mandrel/pb"
	"mandrel/reduce"
	"mandrel/spell"
)

// doers are the layers that do nodes, of those that are built.
func doers() []call {
	return []call{of("elem.Do", elem.Do), of("move.Do", move.Do), of("reduce.Do", reduce.Do), of("linear.Do", linear.Do)}
}

func wildNumber(r *rand.Rand) int64 {
	l := []int64{0, 1, 2, 3, -1, -2, 7, 256, 65536, 65537, 1 << 31, 1 << 32, math.MaxInt64, math.MinInt64, api.NaN, api.NaN + 1}
	return l[r.Intn(len(l))]
}

// wildAttr changes something of an attribute, whose lists are its own.
func wildAttr(r *rand.Rand, a *api.Attr) {
	switch r.Intn(6) {
	case 0:
		a.Kind = r.Intn(9)
	case 1:
		a.I, a.F = wildNumber(r), wildNumber(r)
	case 2:
		a.Ints = append(a.Ints, wildNumber(r))
	case 3:
		a.Name = []string{"axis", "axes", "keepdims", "epsilon", "alpha", "transA", "then", ""}[r.Intn(8)]
	case 4:
		a.T = wildTensor(r, a.T)
	default:
		if len(a.Ints) > 0 {
			a.Ints[r.Intn(len(a.Ints))] = wildNumber(r)
		}
	}
}

// wildTensor is one with something changed; its lists are its own.
func wildTensor(r *rand.Rand, t api.Tensor) api.Tensor {
	t.Dims, t.Data = slices.Clone(t.Dims), slices.Clone(t.Data)
	switch r.Intn(6) {
	case 0:
		t.Type = r.Intn(11)
	case 1:
		t.Dims = append(t.Dims, 1)
	case 2:
		t.Dims = append(t.Dims, int(int32(wildNumber(r))))
	case 3:
		t.Data = append(t.Data, wildNumber(r))
	case 4:
		if len(t.Dims) > 0 {
			t.Dims = t.Dims[1:]
		}
	default:
		if len(t.Data) > 0 {
			t.Data[r.Intn(len(t.Data))] = wildNumber(r)
		}
	}
	return t
}

// wildNode is a node of a line of spell.Others, with some things changed.
func wildNode(r *rand.Rand, line string) (api.Node, []api.Tensor) {
	part := strings.Split(line, "|")
	in := spell.Tensors(part[1])
	n := spell.Op(part[0], len(in))
	for range r.Intn(4) {
		switch r.Intn(5) {
		case 0:
			n.Attrs = append(n.Attrs, api.Attr{})
			wildAttr(r, &n.Attrs[len(n.Attrs)-1])
		case 1:
			if len(n.Attrs) > 0 {
				wildAttr(r, &n.Attrs[r.Intn(len(n.Attrs))])
			}
		case 2:
			in = in[:r.Intn(len(in)+1)]
		case 3:
			n.In = append(n.In, "x")
			in = append(in, wildTensor(r, spell.Tensor("f: 1")))
		default:
			if len(in) > 0 {
				i := r.Intn(len(in))
				in[i] = wildTensor(r, in[i])
			}
		}
	}
	return n, in
}

// R1: no node and no tensors make a layer panic, and what comes out may be.
func TestWildNodes(t *testing.T) {
	r := rand.New(rand.NewSource(1))
	lines := strings.Split(spell.Others(""), "\n")
	done := 0
	for _, c := range doers() {
		for _, line := range lines {
			for range 300 {
				n, in := wildNode(r, line)
				out, e := c.do.(doNode)(n, in)
				if e == api.OK && pb.Check(out) != api.OK || e != api.OK && !spell.Same(out, api.Tensor{}) {
					t.Fatalf("%s of %v, %v: %v, %d", c.name, n, in, out, e)
				}
				if e == api.OK {
					done++
				}
			}
		}
	}
	if done < 1000 {
		t.Errorf("only %d of them were done", done)
	}
}
