package conv

import (
	"math/rand"
	"slices"
	"strings"
	"testing"

	"mandrel/api"
	"mandrel/linear"
	"mandrel/num"
	"mandrel/pb"
	"mandrel/spell"
)

// two is a step of num's; what has an error is no element.
func two(op string, x, y int64) int64 {
	z, e := num.Binary(op, api.Float, x, y)
	if e != api.OK {
		return -1
	}
	return z
}

// problem is a node, with inputs, whose attributes are known.
type problem struct {
	n                               api.Node
	in                              []api.Tensor
	kernel, strides, dilations, pad []int
	group                           int
}

// at is an element by four coordinates.
func at(t api.Tensor, a, b, c, d int) int64 {
	return t.Data[((a*t.Dims[1]+b)*t.Dims[2]+c)*t.Dims[3]+d]
}

// counted are the places of the window at (h, w) that are none of the pads: i, j, and where they are in x.
func (p problem) counted(h, w int) [][4]int {
	var l [][4]int
	for i := 0; i < p.kernel[0]; i++ {
		for j := 0; j < p.kernel[1]; j++ {
			row := h*p.strides[0] - p.pad[0] + i*p.dilations[0]
			column := w*p.strides[1] - p.pad[1] + j*p.dilations[1]
			if row >= 0 && row < p.in[0].Dims[2] && column >= 0 && column < p.in[0].Dims[3] {
				l = append(l, [4]int{i, j, row, column})
			}
		}
	}
	return l
}

// slowElement is what comes out at the coordinates c.
func (p problem) slowElement(c []int) int64 {
	b, m, places := c[0], c[1], p.counted(c[2], c[3])
	x := p.in[0]
	sum := int64(0)
	switch p.n.Op {
	case "Conv":
		w := p.in[1]
		perGroup := x.Dims[1] / p.group
		from := m / (w.Dims[0] / p.group) * perGroup
		for k := range perGroup {
			for _, q := range places {
				sum = two("Add", sum, two("Mul", at(x, b, from+k, q[2], q[3]), at(w, m, k, q[0], q[1])))
			}
		}
		if len(p.in) == 3 {
			sum = two("Add", sum, p.in[2].Data[m])
		}
		return sum
	case "MaxPool":
		most := at(x, b, m, places[0][2], places[0][3])
		for _, q := range places[1:] {
			most = two("Max", most, at(x, b, m, q[2], q[3]))
		}
		return most
	}
	for _, q := range places {
		sum = two("Add", sum, at(x, b, m, q[2], q[3]))
	}
	count, _ := num.Cast(api.Int32, api.Float, int64(len(places)))
	return two("Div", sum, count)
}

// dims are those of what comes out.
func (p problem) dims() []int {
	x := p.in[0].Dims
	l := []int{x[0], x[1]}
	if p.n.Op == "Conv" {
		l[1] = p.in[1].Dims[0]
	}
	for i := range 2 {
		l = append(l, (x[2+i]+p.pad[i]+p.pad[2+i]-p.dilations[i]*(p.kernel[i]-1)-1)/p.strides[i]+1)
	}
	return l
}

// slow is the document's definition, place by place.
func (p problem) slow() api.Tensor {
	out := api.Tensor{Type: api.Float, Dims: p.dims()}
	for i := range spell.Size(out.Dims) {
		out.Data = append(out.Data, p.slowElement(spell.Coords(out.Dims, i)))
	}
	return out
}

const finite = "0 -0 1 -1 0.5 -2.5 3 1e-45 16777216 -9.5 0.1 16777215 1e-8 1.000244140625 -1.00048828125 1e20"

func someTensor(r *rand.Rand, dims ...int) api.Tensor {
	t := api.Tensor{Type: api.Float, Dims: dims}
	for range spell.Size(dims) {
		words := strings.Fields(finite)
		// One that is not finite soon is all there is: most have none.
		if r.Intn(40) == 0 {
			words = strings.Fields("inf -inf nan 3.4028235e38")
		}
		t.Data = append(t.Data, spell.Bits(words[r.Intn(len(words))]))
	}
	return t
}

func someSize(r *rand.Rand) int { return 1 + r.Intn(4) }

// someInts are an attribute's numbers, or those that stand for it, if there is none.
func (p *problem) someInts(r *rand.Rand, name string, other []int, of func(i int) int) []int {
	if r.Intn(3) == 0 {
		return other
	}
	l := make([]int, len(other))
	a := api.Attr{Name: name, Kind: api.AttrInts}
	for i := range l {
		l[i] = of(i)
		a.Ints = append(a.Ints, int64(l[i]))
	}
	p.n.Attrs = append(p.n.Attrs, a)
	return l
}

// someConv has each attribute or none, groups, and a third input or none; its x is as great as its windows need at least.
func someConv(r *rand.Rand) problem {
	p := problem{n: api.Node{Op: "Conv", Out: "z"}, kernel: []int{1 + r.Intn(3), 1 + r.Intn(3)}, group: 1}
	p.strides = p.someInts(r, "strides", []int{1, 1}, func(int) int { return 1 + r.Intn(3) })
	p.pad = p.someInts(r, "pads", []int{0, 0, 0, 0}, func(int) int { return r.Intn(4) })
	p.dilations = p.someInts(r, "dilations", []int{1, 1}, func(int) int { return 1 + r.Intn(3) })
	if r.Intn(2) == 0 {
		p.group = 1 + r.Intn(3)
		p.n.Attrs = append(p.n.Attrs, api.Attr{Name: "group", Kind: api.AttrInt, I: int64(p.group)})
	}
	channels, outs := 1+r.Intn(3), p.group*(1+r.Intn(3))
	dims := []int{1 + r.Intn(2), p.group * channels}
	for i := range 2 {
		dims = append(dims, max(p.dilations[i]*(p.kernel[i]-1)+1-p.pad[i]-p.pad[2+i], 1)+r.Intn(3))
	}
	p.in = []api.Tensor{someTensor(r, dims...), someTensor(r, outs, channels, p.kernel[0], p.kernel[1])}
	if r.Intn(2) == 0 {
		p.in = append(p.in, someTensor(r, outs))
	}
	return p.named()
}

func somePool(r *rand.Rand) problem {
	p := problem{n: api.Node{Op: []string{"MaxPool", "AveragePool"}[r.Intn(2)], Out: "z"}, dilations: []int{1, 1}}
	for len(p.kernel) == 0 {
		p.kernel = p.someInts(r, "kernel_shape", make([]int, 2), func(int) int { return someSize(r) })
		if len(p.n.Attrs) == 0 {
			p.kernel = nil
		}
	}
	p.strides = p.someInts(r, "strides", []int{1, 1}, func(int) int { return 1 + r.Intn(3) })
	p.pad = p.someInts(r, "pads", []int{0, 0, 0, 0}, func(i int) int { return r.Intn(p.kernel[i%2]) })
	dims := []int{1 + r.Intn(2), 1 + r.Intn(3)}
	for i := range 2 {
		dims = append(dims, max(p.kernel[i]-p.pad[i]-p.pad[2+i], 1)+r.Intn(3))
	}
	p.in = []api.Tensor{someTensor(r, dims...)}
	return p.named()
}

func someGlobalPool(r *rand.Rand) problem {
	x := someTensor(r, someSize(r), someSize(r), someSize(r), someSize(r))
	p := problem{n: api.Node{Op: "GlobalAveragePool", Out: "z"}, in: []api.Tensor{x}, kernel: x.Dims[2:]}
	p.strides, p.dilations, p.pad = []int{1, 1}, []int{1, 1}, []int{0, 0, 0, 0}
	return p.named()
}

// named has as many names of inputs as there are, and its attributes in another order.
func (p problem) named() problem {
	p.n.In = slices.Repeat([]string{"x"}, len(p.in))
	slices.Reverse(p.n.Attrs)
	return p
}

func TestAgainstTheDefinition(t *testing.T) {
	r := rand.New(rand.NewSource(13))
	kinds := []func(*rand.Rand) problem{someConv, someConv, somePool, someGlobalPool}
	for i := range 8000 {
		p := kinds[i%len(kinds)](r)
		got, e := Do(p.n, p.in)
		if want := p.slow(); e != api.OK || !spell.Same(got, want) {
			t.Fatalf("P13.1: %v of %v: %v, %d, not %v", p.n, p.in, got, e, want)
		}
		if pb.Check(got) != api.OK {
			t.Fatalf("P13.2: %v of %v: %v, which may not be", p.n, p.in, got)
		}
	}
}

// At each place a convolution by 1 and 1 is w (M C) by what stands there: by all places side by side, a product of matrices.
func TestKernelOfOneIsAProduct(t *testing.T) {
	r := rand.New(rand.NewSource(14))
	for range 1000 {
		n, c, h, w, m := someSize(r), someSize(r), someSize(r), someSize(r), someSize(r)
		x, kernel := someTensor(r, n, c, h, w), someTensor(r, m, c, 1, 1)
		got, e := Do(spell.Op("Conv", 2), []api.Tensor{x, kernel})
		flat := []api.Tensor{{Type: api.Float, Dims: []int{m, c}, Data: kernel.Data}, {Type: api.Float, Dims: []int{n, c, h * w}, Data: x.Data}}
		want, f := linear.Do(spell.Op("MatMul", 2), flat)
		if e != api.OK || f != api.OK || !slices.Equal(got.Dims, []int{n, m, h, w}) || !slices.Equal(got.Data, want.Data) {
			t.Fatalf("P13.2: %v by %v: %v, %d, not %v", x, kernel, got, e, want)
		}
	}
}

func TestGlobalPoolBesideOneWithAKernel(t *testing.T) {
	r := rand.New(rand.NewSource(15))
	for range 500 {
		p := someGlobalPool(r)
		n := spell.Op("AveragePool", 1)
		n.Attrs = []api.Attr{{Name: "kernel_shape", Kind: api.AttrInts, Ints: []int64{int64(p.kernel[0]), int64(p.kernel[1])}}}
		got, e := Do(p.n, p.in)
		want, f := Do(n, p.in)
		if e != api.OK || f != api.OK || !spell.Same(got, want) {
			t.Fatalf("P13.1: of %v: %v, %d; with a kernel: %v, %d", p.in, got, e, want, f)
		}
	}
}

func filled(word string, dims ...int) api.Tensor {
	return api.Tensor{Type: api.Float, Dims: dims, Data: slices.Repeat([]int64{spell.Bits(word)}, spell.Size(dims))}
}

// As many elements as may be, on each side and in what comes out.
func TestGreatTensors(t *testing.T) {
	for _, c := range []struct {
		node string
		in   []api.Tensor
		want api.Tensor
	}{
		{"Conv", []api.Tensor{filled("0.5", 1, 1, 256, 256), filled("2", 1, 1, 1, 1)}, filled("1", 1, 1, 256, 256)},
		{"Conv", []api.Tensor{filled("0.5", 1, 1, 256, 256), filled("2", 1, 1, 256, 256)}, filled("65536", 1, 1, 1, 1)},
		{"Conv", []api.Tensor{filled("0.5", 1, 65536, 1, 1), filled("2", 1, 65536, 1, 1)}, filled("65536", 1, 1, 1, 1)},
		{"Conv; group=65536", []api.Tensor{filled("0.5", 1, 65536, 1, 1), filled("2", 65536, 1, 1, 1), filled("3", 65536)}, filled("4", 1, 65536, 1, 1)},
		{"Conv", []api.Tensor{filled("0.5", 65536, 1, 1, 1), filled("2", 1, 1, 1, 1)}, filled("1", 65536, 1, 1, 1)},
		{"Conv", []api.Tensor{filled("0.5", 1, 1, 1, 65536), filled("2", 1, 1, 1, 65536)}, filled("65536", 1, 1, 1, 1)},
		{"Conv; pads=100 100 100 100", []api.Tensor{filled("0.5", 65536, 1, 1, 1), filled("2", 1, 1, 201, 201)}, filled("1", 65536, 1, 1, 1)},
		{"Conv; dilations=100 1", []api.Tensor{filled("0.5", 1, 1, 65501, 1), filled("2", 1, 1, 656, 1)}, filled("656", 1, 1, 1, 1)},
		{"MaxPool; kernel_shape=100 100; strides=100 100", []api.Tensor{filled("0.5", 1, 1, 256, 256)}, filled("0.5", 1, 1, 2, 2)},
		{"AveragePool; kernel_shape=100 100; strides=100 100", []api.Tensor{filled("0.5", 1, 1, 256, 256)}, filled("0.5", 1, 1, 2, 2)},
		{"GlobalAveragePool", []api.Tensor{filled("0.5", 1, 1, 256, 256)}, filled("0.5", 1, 1, 1, 1)},
		{"GlobalAveragePool", []api.Tensor{filled("0.5", 1, 1, 1, 65536)}, filled("0.5", 1, 1, 1, 1)},
		{"GlobalAveragePool", []api.Tensor{filled("0.5", 256, 256, 1, 1)}, filled("0.5", 256, 256, 1, 1)},
	} {
		if got, e := Do(spell.Op(c.node, len(c.in)), c.in); e != api.OK || !spell.Same(got, c.want) {
			t.Errorf("P13.1: %s of %d: %d, %d", c.node, c.in[0].Dims, got.Dims, e)
		}
	}
}

func TestWhatWouldBeTooGreat(t *testing.T) {
	for _, c := range []struct {
		node string
		in   []api.Tensor
		e    api.Errno
	}{
		{"Conv; pads=0 0 0 1", []api.Tensor{filled("1", 1, 1, 256, 256), filled("1", 1, 1, 1, 1)}, api.ErrLimit},
		{"Conv", []api.Tensor{filled("1", 1, 1, 256, 256), filled("1", 2, 1, 1, 1)}, api.ErrLimit},
		{"MaxPool; kernel_shape=2 2; pads=1 1 1 1", []api.Tensor{filled("1", 1, 1, 256, 256)}, api.ErrLimit},
		{"AveragePool; kernel_shape=101 1", []api.Tensor{filled("1", 1, 1, 256, 256)}, api.ErrGraph},
		{"GlobalAveragePool", []api.Tensor{filled("1", 1, 1, 256, 257)}, api.ErrArg},
	} {
		if got, e := Do(spell.Op(c.node, len(c.in)), c.in); e != c.e || !spell.Same(got, api.Tensor{}) {
			t.Errorf("P13.1: %s of %d: %d, %d, not %d", c.node, c.in[0].Dims, got.Dims, e, c.e)
		}
	}
}

// A window may be left ahead of its last place.
func TestPlacesThatAreLeft(t *testing.T) {
	all := windowsOf(spell.Op("MaxPool; pads=1 1 1 1", 1), []int{1, 1, 3, 3}, []int64{3, 3})
	var seen [][2]int
	for number, at := range all.places(0, 0) {
		seen = append(seen, [2]int{number, at})
		if len(seen) == 3 {
			break
		}
	}
	if want := [][2]int{{4, 0}, {5, 1}, {7, 3}}; !slices.Equal(seen, want) {
		t.Errorf("P13.1: places %v, not %v", seen, want)
	}
}
