package linear

import (
	"math/rand"
	"slices"
	"strings"
	"testing"

	"mandrel/api"
	"mandrel/num"
	"mandrel/pb"
	"mandrel/spell"
)

// two is a step of num's; what has an error is no element.
func two(op string, x, y int64) int64 {
	z, e := num.Binary(op, api.Float, x, y)
	if e != api.OK {
		return -1
	}
	return z
}

// at is a tensor's element at coordinates of something greater, to which it is spread.
func at(t api.Tensor, c []int) int64 {
	i := 0
	for k, d := range t.Dims {
		i = i*d + min(c[len(c)-len(t.Dims)+k], d-1)
	}
	return t.Data[i]
}

// slowSum goes along k: x has it as its last coordinate, y as the last but one, unless they are turned.
func slowSum(x, y api.Tensor, turnX, turnY bool, c []int) int64 {
	ahead, i, j := c[:len(c)-2], c[len(c)-2], c[len(c)-1]
	inner := x.Dims[len(x.Dims)-1]
	if turnX {
		inner = x.Dims[len(x.Dims)-2]
	}
	s := int64(0)
	for k := range inner {
		p, q := []int{i, k}, []int{k, j}
		if turnX {
			slices.Reverse(p)
		}
		if turnY {
			slices.Reverse(q)
		}
		s = two("Add", s, two("Mul", at(x, slices.Concat(ahead, p)), at(y, slices.Concat(ahead, q))))
	}
	return s
}

// slowElement is what comes out at the coordinates c.
func slowElement(n api.Node, in []api.Tensor, c []int) int64 {
	turn := map[string]bool{}
	bits := map[string]int64{"alpha": 0x3f800000, "beta": 0x3f800000}
	for _, a := range n.Attrs {
		turn[a.Name] = a.I == 1
		bits[a.Name] = a.F
	}
	s := slowSum(in[0], in[1], turn["transA"], turn["transB"], c)
	if n.Op == "MatMul" {
		return s
	}
	s = two("Mul", bits["alpha"], s)
	if len(in) == 3 {
		s = two("Add", s, two("Mul", bits["beta"], at(in[2], c)))
	}
	return s
}

// problem is a node, with inputs, whose dims of what comes out are known.
type problem struct {
	n    api.Node
	in   []api.Tensor
	dims []int
}

// slow is the document's definition, place by place.
func (p problem) slow() api.Tensor {
	out := api.Tensor{Type: api.Float, Dims: p.dims}
	for i := range spell.Size(p.dims) {
		out.Data = append(out.Data, slowElement(p.n, p.in, spell.Coords(p.dims, i)))
	}
	return out
}

const finite = "0 -0 1 -1 0.5 -2.5 3 1e-45 16777216 -9.5 0.1 16777215 1e-8 1.000244140625 -1.00048828125 1e20"

func someElement(r *rand.Rand) int64 {
	words := strings.Fields(finite)
	// One that is not finite soon is all there is: most have none.
	if r.Intn(40) == 0 {
		words = strings.Fields("inf -inf nan 3.4028235e38")
	}
	return spell.Bits(words[r.Intn(len(words))])
}

func someTensor(r *rand.Rand, dims []int) api.Tensor {
	t := api.Tensor{Type: api.Float, Dims: dims}
	for range spell.Size(dims) {
		t.Data = append(t.Data, someElement(r))
	}
	return t
}

func someSize(r *rand.Rand) int { return 1 + r.Intn(4) }

// someMatMul has rows of matrices of which one side at least has all dimensions.
func someMatMul(r *rand.Rand) problem {
	ahead := make([]int, r.Intn(4))
	for i := range ahead {
		ahead[i] = 1 + r.Intn(3)
	}
	i, k, j := someSize(r), someSize(r), someSize(r)
	a, b := spell.Narrowed(ahead, r.Intn), slices.Clone(ahead)
	for d := range b {
		// Spread here, where the other side is not.
		if from := d - len(b) + len(a); from >= 0 && a[from] == b[d] && r.Intn(3) == 0 {
			b[d] = 1
		}
	}
	x, y := someTensor(r, append(a, i, k)), someTensor(r, append(b, k, j))
	if r.Intn(2) == 0 {
		x, y = someTensor(r, append(slices.Clone(b), i, k)), someTensor(r, append(slices.Clone(a), k, j))
	}
	return problem{spell.Op("MatMul", 2), []api.Tensor{x, y}, append(slices.Clone(ahead), i, j)}
}

// someGemm has each attribute or none, and a third input or none.
func someGemm(r *rand.Rand) problem {
	i, k, j := someSize(r), someSize(r), someSize(r)
	x, y := []int{i, k}, []int{k, j}
	var attrs []api.Attr
	for _, name := range []string{"transA", "transB"} {
		if turn := r.Intn(3); turn < 2 {
			attrs = append(attrs, api.Attr{Name: name, Kind: api.AttrInt, I: int64(turn)})
			if turn == 1 && name == "transA" {
				slices.Reverse(x)
			} else if turn == 1 {
				slices.Reverse(y)
			}
		}
	}
	for _, name := range []string{"alpha", "beta"} {
		if r.Intn(2) == 0 {
			attrs = append(attrs, api.Attr{Name: name, Kind: api.AttrFloat, F: someElement(r)})
		}
	}
	in := []api.Tensor{someTensor(r, x), someTensor(r, y)}
	if r.Intn(2) == 0 {
		in = append(in, someTensor(r, spell.Narrowed([]int{i, j}, r.Intn)))
	}
	n := spell.Op("Gemm", len(in))
	n.Attrs = attrs
	return problem{n, in, []int{i, j}}
}

func TestAgainstTheDefinition(t *testing.T) {
	r := rand.New(rand.NewSource(12))
	for i := range 6000 {
		p := someMatMul(r)
		if i%2 == 0 {
			p = someGemm(r)
		}
		got, e := Do(p.n, p.in)
		if want := p.slow(); e != api.OK || !spell.Same(got, want) {
			t.Fatalf("P12.1: %v of %v: %v, %d, not %v", p.n, p.in, got, e, want)
		}
		if pb.Check(got) != api.OK {
			t.Fatalf("P12.2: %v of %v: %v, which may not be", p.n, p.in, got)
		}
	}
}

// diagonal has 1 where both coordinates are the same, and 0 else.
func diagonal(dim int) api.Tensor {
	t := filled(0, dim, dim)
	for i := range dim {
		t.Data[i*dim+i] = spell.Bits("1")
	}
	return t
}

func TestProductByTheDiagonal(t *testing.T) {
	r := rand.New(rand.NewSource(13))
	words := strings.Fields(finite)
	for range 500 {
		x := api.Tensor{Type: api.Float, Dims: []int{someSize(r), someSize(r)}}
		want := api.Tensor{Type: api.Float, Dims: x.Dims}
		for range spell.Size(x.Dims) {
			bits := spell.Bits(words[r.Intn(len(words))])
			x.Data = append(x.Data, bits)
			want.Data = append(want.Data, two("Add", 0, bits))
		}
		for _, in := range [][]api.Tensor{{x, diagonal(x.Dims[1])}, {diagonal(x.Dims[0]), x}} {
			for _, op := range []string{"MatMul", "Gemm"} {
				if got, e := Do(spell.Op(op, 2), in); e != api.OK || !spell.Same(got, want) {
					t.Fatalf("P12.2: %s of %v: %v, %d, not %v", op, in, got, e, want)
				}
			}
		}
	}
}

// All rows of the first one but one are changed: that one's row stays as it was.
func TestEachRowByItself(t *testing.T) {
	r := rand.New(rand.NewSource(14))
	for range 500 {
		i, k, j := 1+someSize(r), someSize(r), someSize(r)
		x, y := someTensor(r, []int{i, k}), someTensor(r, []int{k, j})
		row := r.Intn(i)
		other := someTensor(r, []int{i, k})
		copy(other.Data[row*k:(row+1)*k], x.Data[row*k:])
		for _, op := range []string{"MatMul", "Gemm"} {
			a, e := Do(spell.Op(op, 2), []api.Tensor{x, y})
			b, f := Do(spell.Op(op, 2), []api.Tensor{other, y})
			if e != api.OK || f != api.OK || !slices.Equal(a.Data[row*j:(row+1)*j], b.Data[row*j:(row+1)*j]) {
				t.Fatalf("P12.2: %s: the row %d of %v by %v, and with other rows beside it: %v, %v", op, row, x, y, a, b)
			}
		}
	}
}

// An alpha or a beta that is no Float is an attribute that may not be, if it is needed or not.
func TestAttributesThatAreNoFloats(t *testing.T) {
	in := spell.Tensors("f 1 1: 1, f 1 1: 1")
	for _, name := range []string{"alpha", "beta"} {
		for _, bits := range []int64{-1, 1 << 32, api.NaN + 1} {
			n := spell.Op("Gemm; "+name+"=1", 2)
			n.Attrs[0].F = bits
			if out, e := Do(n, in); e != api.ErrGraph || !spell.Same(out, api.Tensor{}) {
				t.Errorf("P12.1: %s %x: %v, %d", name, bits, out, e)
			}
		}
	}
}

func filled(bits int64, dims ...int) api.Tensor {
	return api.Tensor{Type: api.Float, Dims: dims, Data: slices.Repeat([]int64{bits}, spell.Size(dims))}
}

// As many elements as may be, on either side and in what comes out; spread matrices would have more.
func TestGreatTensors(t *testing.T) {
	half, two := spell.Bits("0.5"), spell.Bits("2")
	for _, c := range []struct {
		x, y api.Tensor
		dims []int
		want string
	}{
		{filled(half, 256, 256), filled(two, 256, 256), []int{256, 256}, "256"},
		{filled(half, 1, 65536), filled(two, 65536, 1), []int{1, 1}, "65536"},
		{filled(half, 65536, 1), filled(two, 1, 1), []int{65536, 1}, "1"},
		{filled(half, 65536, 1, 1), filled(two, 1, 1), []int{65536, 1, 1}, "1"},
		{filled(half, 256, 256), filled(two, 256, 256, 1), []int{256, 256, 1}, "256"},
		{filled(half, 256, 1, 256), filled(two, 256, 256), []int{256, 1, 256}, "256"},
		{filled(half, 64, 1, 4, 256), filled(two, 64, 256, 1), []int{64, 64, 4, 1}, "256"},
	} {
		got, e := Do(spell.Op("MatMul", 2), []api.Tensor{c.x, c.y})
		if want := filled(spell.Bits(c.want), c.dims...); e != api.OK || !spell.Same(got, want) {
			t.Errorf("P12.1: %d by %d: %d, %d", c.x.Dims, c.y.Dims, got.Dims, e)
		}
	}
	for _, in := range [][]api.Tensor{
		{filled(half, 65536, 1), filled(two, 1, 2)},
		{filled(half, 256, 256), filled(two, 257, 256, 1)},
		{filled(half, 256, 1, 1, 1), filled(two, 257, 1, 1)},
	} {
		want := api.ErrLimit
		if spell.Size(in[1].Dims) > api.MaxElems {
			want = api.ErrArg
		}
		if got, e := Do(spell.Op("MatMul", 2), in); e != want || !spell.Same(got, api.Tensor{}) {
			t.Errorf("P12.1: %d by %d: %d, %d", in[0].Dims, in[1].Dims, got.Dims, e)
		}
	}
	if _, e := Do(spell.Op("Gemm", 2), []api.Tensor{filled(half, 257, 1), filled(two, 1, 256)}); e != api.ErrLimit {
		t.Errorf("P12.1: Gemm with more than may be: %d", e)
	}
}
