package elem

import (
	"math/rand"
	"slices"
	"strconv"
	"strings"
	"testing"

	"mandrel/api"
	"mandrel/num"
	"mandrel/pb"
	"mandrel/spell"
)

// rows are the operators of this layer, each with the types of what it is given.
const rows = `
Identity|f Identity|i Identity|l Identity|b Neg|f Neg|i Neg|l Abs|f Abs|i Abs|l Not|b Relu|f Sqrt|f Floor|f Exp|f Sigmoid|f Tanh|f
Add|ff Add|ii Add|ll Sub|ff Sub|ii Sub|ll Mul|ff Mul|ii Mul|ll Div|ff Div|ii Div|ll Max|ff Max|ii Max|ll Min|ff Min|ii Min|ll
And|bb Or|bb Xor|bb Equal|ff Equal|ii Equal|ll Equal|bb Less|ff Less|ii Less|ll Greater|ff Greater|ii Greater|ll
Where|bff Where|bii Where|bll Where|bbb Clip|f
Cast|f Cast|i Cast|l Cast|b
`

// elements are some of a type, edges among them.
func elements(typ int) []int64 {
	switch typ {
	case api.Float:
		var l []int64
		for _, word := range strings.Fields("0 -0 1 -1 0.5 -2.5 3 1e-45 3.4028235e38 -3.4028235e38 inf -inf nan 2147483648 -9.5 88") {
			l = append(l, spell.Bits(word))
		}
		return l
	case api.Int32:
		return []int64{0, 1, -1, 2, -7, 100, 65536, 1<<31 - 1, -1 << 31, 16777217}
	case api.Int64:
		return []int64{0, 1, -1, 2, -7, 100, 1 << 32, 1<<63 - 1, -1 << 63, 16777219}
	}
	return []int64{0, 1}
}

func randomTensor(r *rand.Rand, typ int, dims []int) api.Tensor {
	t := api.Tensor{Type: typ, Dims: dims}
	count := 1
	for _, d := range dims {
		count *= d
	}
	l := elements(typ)
	for range count {
		t.Data = append(t.Data, l[r.Intn(len(l))])
	}
	return t
}

// node is a row's, with inputs that are spread to each other.
func randomNode(r *rand.Rand, row string) (api.Node, []api.Tensor) {
	op, letters, _ := strings.Cut(row, "|")
	dims := make([]int, r.Intn(5))
	for i := range dims {
		dims[i] = 1 + r.Intn(3)
	}
	var in []api.Tensor
	for i := range letters {
		typ := spell.Value("x " + letters[i:i+1]).Type
		in = append(in, randomTensor(r, typ, spell.Narrowed(dims, r.Intn)))
	}
	text := op
	if op == "Cast" {
		text += ";to=" + strconv.Itoa([]int{api.Float, api.Int32, api.Int64, api.Bool}[r.Intn(4)])
	}
	n := spell.Op(text, len(in))
	for _, name := range []string{"min", "max"} {
		if l := elements(api.Float); op == "Clip" && r.Intn(2) == 0 {
			n.Attrs = append(n.Attrs, api.Attr{Name: name, Kind: api.AttrFloat, F: l[r.Intn(len(l))]})
		}
	}
	return n, in
}

// spreadDims are the greatest dimensions of all inputs, from behind.
func spreadDims(in []api.Tensor) []int {
	var l []int
	for _, t := range in {
		for len(l) < len(t.Dims) {
			l = append([]int{1}, l...)
		}
		for i, d := range t.Dims {
			l[len(l)-len(t.Dims)+i] = max(d, l[len(l)-len(t.Dims)+i])
		}
	}
	return l
}

// numberOf is the number of an input's element at a place of what comes out.
func numberOf(t api.Tensor, dims []int, place int) int {
	number, width := 0, 1
	for back := range len(dims) {
		d := dims[len(dims)-1-back]
		c := place % d
		place /= d
		if back < len(t.Dims) {
			own := t.Dims[len(t.Dims)-1-back]
			number += min(c, own-1) * width
			width *= own
		}
	}
	return number
}

// slowElement is what comes out at a place, of the inputs' elements there.
func slowElement(n api.Node, in []api.Tensor, x []int64) (int64, api.Errno) {
	bits := func(name string, other string) int64 {
		for _, a := range n.Attrs {
			if a.Name == name {
				return a.F
			}
		}
		return spell.Bits(other)
	}
	switch {
	case n.Op == "Where":
		return x[2-x[0]], api.OK
	case n.Op == "Clip":
		y, _ := num.Binary("Max", api.Float, x[0], bits("min", "-inf"))
		return num.Binary("Min", api.Float, y, bits("max", "inf"))
	case n.Op == "Cast":
		return num.Cast(in[0].Type, int(n.Attrs[0].I), x[0])
	case len(in) == 1:
		return num.Unary(n.Op, in[0].Type, x[0])
	}
	return num.Binary(n.Op, in[0].Type, x[0], x[1])
}

func slowType(n api.Node, in []api.Tensor) int {
	switch n.Op {
	case "Equal", "Less", "Greater":
		return api.Bool
	case "Cast":
		return int(n.Attrs[0].I)
	}
	return in[len(in)-1].Type
}

// slowDo is the document's definition, place by place.
func slowDo(n api.Node, in []api.Tensor) (api.Tensor, api.Errno) {
	dims := spreadDims(in)
	out := api.Tensor{Type: slowType(n, in), Dims: dims}
	count := 1
	for _, d := range dims {
		count *= d
	}
	for place := range count {
		var x []int64
		for _, t := range in {
			x = append(x, t.Data[numberOf(t, dims, place)])
		}
		y, e := slowElement(n, in, x)
		if e != api.OK {
			return api.Tensor{}, e
		}
		out.Data = append(out.Data, y)
	}
	return out, api.OK
}

func TestAgainstTheDefinition(t *testing.T) {
	r := rand.New(rand.NewSource(9))
	for _, row := range strings.Fields(rows) {
		for range 300 {
			n, in := randomNode(r, row)
			got, e := Do(n, in)
			want, wantError := slowDo(n, in)
			if e != wantError || !spell.Same(got, want) {
				t.Fatalf("P9.1: %s of %v: %v, %d, not %v, %d", row, in, got, e, want, wantError)
			}
			if e == api.OK && pb.Check(got) != api.OK {
				t.Fatalf("P9.2: %s of %v: %v, which may not be", row, in, got)
			}
		}
	}
}

// One element is changed: where it does not stand all stays as it was.
func TestEachPlaceByItself(t *testing.T) {
	r := rand.New(rand.NewSource(10))
	for _, row := range strings.Fields(rows) {
		for range 100 {
			n, in := randomNode(r, row)
			before, e := Do(n, in)
			i := r.Intn(len(in))
			at := r.Intn(len(in[i].Data))
			l := elements(in[i].Type)
			in[i].Data[at] = l[r.Intn(len(l))]
			after, f := Do(n, in)
			if e != api.OK || f != api.OK {
				continue
			}
			for place := range before.Data {
				if numberOf(in[i], before.Dims, place) != at && before.Data[place] != after.Data[place] {
					t.Fatalf("P9.2: %s of %v: the element %d of the input %d changes the place %d", row, in, at, i, place)
				}
			}
		}
	}
}

// As many elements as may be.
func TestGreatTensors(t *testing.T) {
	x, y := api.Tensor{Type: api.Int64, Dims: []int{256, 1}}, api.Tensor{Type: api.Int64, Dims: []int{256}}
	for i := range 256 {
		x.Data = append(x.Data, int64(i)*1000)
		y.Data = append(y.Data, int64(i))
	}
	z, e := Do(spell.Op("Add", 2), []api.Tensor{x, y})
	if e != api.OK || !slices.Equal(z.Dims, []int{256, 256}) || len(z.Data) != api.MaxElems {
		t.Fatalf("P9.1: %d, %d elements, %d", z.Dims, len(z.Data), e)
	}
	for i, got := range z.Data {
		if got != int64(i/256*1000+i%256) {
			t.Fatalf("P9.1: %d at the place %d", got, i)
		}
	}
	y.Dims = append([]int{2}, append(y.Dims, 1)...)
	y.Data = append(y.Data, y.Data...)
	x.Dims = []int{256}
	if _, e := Do(spell.Op("Add", 2), []api.Tensor{x, y}); e != api.ErrLimit {
		t.Errorf("P9.1: of twice as many: %d", e)
	}
}
