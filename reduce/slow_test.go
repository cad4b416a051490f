package reduce

import (
	"math/rand"
	"slices"
	"strings"
	"testing"

	"mandrel/api"
	"mandrel/num"
	"mandrel/pb"
	"mandrel/spell"
)

// two and one are num's steps; what has an error is no element.
func two(op string, typ int, x, y int64) int64 {
	z, e := num.Binary(op, typ, x, y)
	if e != api.OK {
		return -1
	}
	return z
}

func one(op string, x int64) int64 {
	y, e := num.Unary(op, api.Float, x)
	if e != api.OK {
		return -1
	}
	return y
}

// slowAxes are the numbers of a node's axes, counted from 0 on.
func slowAxes(n api.Node, rank int) []int {
	var given []int64
	for i := range rank {
		given = append(given, int64(i))
	}
	if n.Op == "ArgMax" {
		given = []int64{0}
	}
	if n.Op == "Softmax" {
		given = []int64{-1}
	}
	for _, a := range n.Attrs {
		switch a.Name {
		case "axes":
			given = a.Ints
		case "axis":
			given = []int64{a.I}
		}
	}
	var l []int
	for _, a := range given {
		l = append(l, (int(a)+rank)%rank)
	}
	return l
}

// alike are the elements whose coordinates but for the axes are c, in their order.
func alike(x api.Tensor, axes []int, c []int) []int64 {
	var l []int64
	for i, element := range x.Data {
		same := true
		for k, p := range spell.Coords(x.Dims, i) {
			same = same && (p == c[k] || slices.Contains(axes, k))
		}
		if same {
			l = append(l, element)
		}
	}
	return l
}

func slowSum(typ int, l []int64) int64 {
	s := int64(0)
	for _, x := range l {
		s = two("Add", typ, s, x)
	}
	return s
}

func slowMax(typ int, l []int64) int64 {
	m := l[0]
	for _, x := range l[1:] {
		m = two("Max", typ, m, x)
	}
	return m
}

func slowArgMax(typ int, l []int64) int64 {
	at := 0
	for i, x := range l {
		if two("Greater", typ, x, l[at]) == 1 {
			at = i
		}
	}
	return int64(at)
}

// slowElement is what comes out at a place: c has its coordinates in x, but for the axes.
func slowElement(n api.Node, in []api.Tensor, c []int) int64 {
	x := in[0]
	own := alike(x, nil, c)[0]
	if n.Op == "BatchNormalization" {
		epsilon := int64(0x3727c5ac)
		for _, a := range n.Attrs {
			epsilon = a.F
		}
		k := c[1]
		y := two("Sub", api.Float, own, in[3].Data[k])
		y = two("Div", api.Float, y, one("Sqrt", two("Add", api.Float, in[4].Data[k], epsilon)))
		return two("Add", api.Float, two("Mul", api.Float, y, in[1].Data[k]), in[2].Data[k])
	}
	l := alike(x, slowAxes(n, len(x.Dims)), c)
	switch n.Op {
	case "ReduceSum":
		return slowSum(x.Type, l)
	case "ReduceMean":
		count, _ := num.Cast(api.Int64, api.Float, int64(len(l)))
		return two("Div", api.Float, slowSum(api.Float, l), count)
	case "ReduceMax":
		return slowMax(x.Type, l)
	case "ArgMax":
		return slowArgMax(x.Type, l)
	}
	m := slowMax(api.Float, l)
	var powers []int64
	for _, y := range l {
		powers = append(powers, one("Exp", two("Sub", api.Float, y, m)))
	}
	return two("Div", api.Float, one("Exp", two("Sub", api.Float, own, m)), slowSum(api.Float, powers))
}

// slowDo is the document's definition, place by place.
func slowDo(n api.Node, in []api.Tensor) api.Tensor {
	x := in[0]
	out := api.Tensor{Type: x.Type}
	var gone []int
	if n.Op != "Softmax" && n.Op != "BatchNormalization" {
		gone = slowAxes(n, len(x.Dims))
	}
	if n.Op == "ArgMax" {
		out.Type = api.Int64
	}
	keep := true
	for _, a := range n.Attrs {
		keep = keep && (a.Name != "keepdims" || a.I == 1)
	}
	kept := slices.Clone(x.Dims)
	for k, d := range x.Dims {
		if slices.Contains(gone, k) {
			kept[k] = 1
		}
		if !slices.Contains(gone, k) {
			out.Dims = append(out.Dims, d)
		} else if keep {
			out.Dims = append(out.Dims, 1)
		}
	}
	for i := range spell.Size(kept) {
		out.Data = append(out.Data, slowElement(n, in, spell.Coords(kept, i)))
	}
	return out
}

const floats = "0 -0 1 -1 0.5 -2.5 3 1e-45 3.4028235e38 -3.4028235e38 inf -inf nan 16777216 -9.5 88 16777215 1e-8 -16.8 0.1"

func someElement(r *rand.Rand, typ int) int64 {
	switch typ {
	case api.Float:
		words := strings.Fields(floats)
		// One that is not finite soon is all there is: most have none.
		if word := words[r.Intn(len(words))]; r.Intn(10) == 0 || !strings.Contains("inf -inf nan 3.4028235e38 -3.4028235e38", word) {
			return spell.Bits(word)
		}
		return spell.Bits("1.5")
	case api.Int32:
		return []int64{0, 1, -1, 7, 1<<31 - 1, -1 << 31}[r.Intn(6)]
	}
	return []int64{0, 1, -1, 7, 1<<63 - 1, -1 << 63}[r.Intn(6)]
}

func someTensor(r *rand.Rand, typ int, dims []int) api.Tensor {
	t := api.Tensor{Type: typ, Dims: dims}
	for range spell.Size(dims) {
		t.Data = append(t.Data, someElement(r, typ))
	}
	return t
}

func someDims(r *rand.Rand, least int) []int {
	dims := make([]int, least+r.Intn(5-least))
	for i := range dims {
		dims[i] = 1 + r.Intn(4)
	}
	return dims
}

// someNode is well, with each attribute or without it.
func someNode(r *rand.Rand, op string) (api.Node, []api.Tensor) {
	least := map[string]int{"ArgMax": 1, "Softmax": 1, "BatchNormalization": 2}[op]
	typ := api.Float
	if op == "ReduceSum" || op == "ReduceMax" || op == "ArgMax" {
		typ = []int{api.Float, api.Int32, api.Int64}[r.Intn(3)]
	}
	dims := someDims(r, least)
	in := []api.Tensor{someTensor(r, typ, dims)}
	var attrs []api.Attr
	switch op {
	case "BatchNormalization":
		for range 4 {
			in = append(in, someTensor(r, api.Float, dims[1:2]))
		}
		attrs = append(attrs, api.Attr{Name: "epsilon", Kind: api.AttrFloat, F: someElement(r, api.Float)})
	case "ArgMax", "Softmax":
		attrs = append(attrs, api.Attr{Name: "axis", Kind: api.AttrInt, I: int64(r.Intn(2*len(dims)) - len(dims))})
	default:
		axes := api.Attr{Name: "axes", Kind: api.AttrInts}
		for _, k := range r.Perm(len(dims))[:r.Intn(len(dims)+1)] {
			axes.Ints = append(axes.Ints, int64(k-r.Intn(2)*len(dims)))
		}
		attrs = append(attrs, axes)
	}
	if op != "Softmax" && op != "BatchNormalization" {
		attrs = append(attrs, api.Attr{Name: "keepdims", Kind: api.AttrInt, I: int64(r.Intn(2))})
	}
	n := spell.Op(op, len(in))
	for _, a := range attrs {
		if r.Intn(3) > 0 {
			n.Attrs = append(n.Attrs, a)
		}
	}
	return n, in
}

func TestAgainstTheDefinition(t *testing.T) {
	r := rand.New(rand.NewSource(11))
	for _, op := range strings.Fields("ReduceSum ReduceMean ReduceMax ArgMax Softmax BatchNormalization") {
		for range 1000 {
			n, in := someNode(r, op)
			got, e := Do(n, in)
			if want := slowDo(n, in); e != api.OK || !spell.Same(got, want) {
				t.Fatalf("P11.1: %v of %v: %v, %d, not %v", n, in, got, e, want)
			}
			if pb.Check(got) != api.OK {
				t.Fatalf("P11.2: %v of %v: %v, which may not be", n, in, got)
			}
		}
	}
}

func TestSumsOverOnes(t *testing.T) {
	r := rand.New(rand.NewSource(12))
	for range 1000 {
		x := someTensor(r, []int{api.Float, api.Int32, api.Int64}[r.Intn(3)], append([]int{1}, append(someDims(r, 0), 1)...))
		got, e := Do(spell.Op("ReduceSum; axes=-1 0", 1), []api.Tensor{x})
		if e != api.OK || !slices.Equal(got.Dims, x.Dims) {
			t.Fatalf("P11.2: %v: %v, %d", x, got, e)
		}
		for i, element := range x.Data {
			if want := two("Add", x.Type, 0, element); got.Data[i] != want {
				t.Fatalf("P11.2: 0 and %d: %d, not %d", element, got.Data[i], want)
			}
		}
	}
}

func TestArgMaxPointsAtTheGreatest(t *testing.T) {
	r := rand.New(rand.NewSource(13))
	for range 1000 {
		x := someTensor(r, []int{api.Float, api.Int32, api.Int64}[r.Intn(3)], []int{1 + r.Intn(6)})
		if slices.Contains(x.Data, api.NaN) && x.Type == api.Float {
			continue
		}
		at, e := Do(spell.Op("ArgMax", 1), []api.Tensor{x})
		most, f := Do(spell.Op("ReduceMax", 1), []api.Tensor{x})
		if e != api.OK || f != api.OK || two("Equal", x.Type, x.Data[at.Data[0]], most.Data[0]) != 1 {
			t.Fatalf("P11.2: of %v: ArgMax %v, ReduceMax %v", x, at, most)
		}
	}
}

// An epsilon that is no Float is an attribute that may not be.
func TestEpsilonThatIsNone(t *testing.T) {
	in := spell.Tensors("f 1 1: 1, f 1: 1, f 1: 1, f 1: 1, f 1: 1")
	for _, bits := range []int64{-1, 1 << 32, api.NaN + 1} {
		n := spell.Op("BatchNormalization; epsilon=1", 5)
		n.Attrs[0].F = bits
		if out, e := Do(n, in); e != api.ErrGraph || !spell.Same(out, api.Tensor{}) {
			t.Errorf("P11.1: epsilon %x: %v, %d", bits, out, e)
		}
	}
}

// As many elements as may be: in one group, each in one of its own, and in some whose elements stand far apart.
func TestGreatTensors(t *testing.T) {
	x := api.Tensor{Type: api.Int64, Dims: []int{256, 256}}
	y := api.Tensor{Type: api.Float, Dims: []int{65536}}
	for i := range api.MaxElems {
		x.Data = append(x.Data, int64(i))
		y.Data = append(y.Data, spell.Bits("1"))
	}
	for _, c := range []struct {
		node  string
		x     api.Tensor
		count int
		first int64
		last  int64
	}{
		{"ReduceSum", x, 1, 65535 * 65536 / 2, 65535 * 65536 / 2},
		{"ReduceSum; axes=0", x, 256, 255 * 256 / 2 * 256, 255*256/2*256 + 255*256},
		{"ReduceSum; axes=1", x, 256, 255 * 256 / 2, 255*256/2 + 255*256*256},
		{"ReduceSum; axes=", x, 65536, 0, 65535},
		{"ReduceMax; axes=0", x, 256, 255 * 256, 65535},
		{"ArgMax; axis=1", x, 256, 255, 255},
		{"ReduceSum", y, 1, spell.Bits("65536"), spell.Bits("65536")},
		{"ReduceMean", y, 1, spell.Bits("1"), spell.Bits("1")},
		{"ArgMax", y, 1, 0, 0},
		{"Softmax", y, 65536, spell.Bits("0.0000152587890625"), spell.Bits("0.0000152587890625")},
	} {
		got, e := Do(spell.Op(c.node, 1), []api.Tensor{c.x})
		if e != api.OK || len(got.Data) != c.count || got.Data[0] != c.first || got.Data[c.count-1] != c.last {
			t.Errorf("P11.1: %s of %d: %d, %d of %d, %d", c.node, c.x.Dims, len(got.Data), got.Data[:min(1, len(got.Data))], got.Dims, e)
		}
	}
	x.Data = append(x.Data, 0)
	x.Dims = []int{65537}
	if _, e := Do(spell.Op("ReduceSum", 1), []api.Tensor{x}); e != api.ErrArg {
		t.Errorf("P11.1: of one element too many: %d", e)
	}
}
