package move

import (
	"math/rand"
	"slices"
	"strings"
	"testing"

	"mandrel/api"
	"mandrel/infer"
	"mandrel/pb"
	"mandrel/spell"
)

// at is a tensor's element at coordinates; false, if there is none.
func at(t api.Tensor, c []int) (int64, bool) {
	i := 0
	for k, d := range t.Dims {
		if c[k] < 0 || c[k] >= d {
			return 0, false
		}
		i += c[k] * spell.Size(t.Dims[k+1:])
	}
	return t.Data[i], true
}

// ints are an attribute's; false, if there is none.
func ints(n api.Node, name string) ([]int64, bool) {
	for _, a := range n.Attrs {
		if a.Name == name && a.Kind == api.AttrInt {
			return []int64{a.I}, true
		}
		if a.Name == name {
			return a.Ints, true
		}
	}
	return nil, false
}

// place is a place of a dimension, or an axis of a rank; false, if there is none.
func place(x int64, dim int) (int, bool) {
	for i := range dim {
		if x == int64(i) || x == int64(i-dim) {
			return i, true
		}
	}
	return 0, false
}

func axis(n api.Node, rank int) int {
	l, ok := ints(n, "axis")
	if !ok {
		return 0
	}
	i, _ := place(l[0], rank)
	return i
}

// slowElement is what comes out at the coordinates c, that of the element number i.
func slowElement(n api.Node, in []api.Tensor, c []int, i int) (int64, api.Errno) {
	switch n.Op {
	case "Constant":
		return n.Attrs[0].T.Data[i], api.OK
	case "Expand":
		d := slices.Clone(c[len(c)-len(in[0].Dims):])
		for k := range d {
			d[k] = min(d[k], in[0].Dims[k]-1)
		}
		x, _ := at(in[0], d)
		return x, api.OK
	case "Transpose":
		perm, ok := ints(n, "perm")
		d := make([]int, len(c))
		for k := range c {
			if ok {
				d[perm[k]] = c[k]
			} else {
				d[len(c)-1-k] = c[k]
			}
		}
		x, _ := at(in[0], d)
		return x, api.OK
	case "Slice":
		x, _ := at(in[0], slowStart(n, in[0].Dims, c))
		return x, api.OK
	case "Concat":
		k := axis(n, len(c))
		d := slices.Clone(c)
		for _, t := range in {
			if x, ok := at(t, d); ok {
				return x, api.OK
			}
			d[k] -= t.Dims[k]
		}
	case "Gather":
		return slowGather(n, in, c)
	case "Pad":
		pads, _ := ints(n, "pads")
		d := slices.Clone(c)
		for k := range d {
			d[k] -= int(pads[k])
		}
		if x, ok := at(in[0], d); ok {
			return x, api.OK
		}
		for _, a := range n.Attrs {
			if a.Name == "value" {
				return a.F, api.OK
			}
		}
		return 0, api.OK
	}
	return in[0].Data[i], api.OK
}

func slowStart(n api.Node, dims []int, c []int) []int {
	starts, _ := ints(n, "starts")
	axes, ok := ints(n, "axes")
	d := slices.Clone(c)
	for i, start := range starts {
		k := i
		if ok {
			k, _ = place(axes[i], len(dims))
		}
		if start < 0 {
			start = max(start+int64(dims[k]), 0)
		}
		d[k] += int(start)
	}
	return d
}

func slowGather(n api.Node, in []api.Tensor, c []int) (int64, api.Errno) {
	x, index := in[0], in[1]
	k := axis(n, len(x.Dims))
	j, _ := at(index, c[k:k+len(index.Dims)])
	p, ok := place(j, x.Dims[k])
	if !ok {
		return 0, api.ErrIndex
	}
	y, _ := at(x, slices.Concat(c[:k], []int{p}, c[k+len(index.Dims):]))
	return y, api.OK
}

// slowDo is the document's definition, coordinates by coordinates.
func slowDo(n api.Node, in []api.Tensor) (api.Tensor, api.Errno) {
	var values []api.Value
	for _, t := range in {
		values = append(values, api.Value{Type: t.Type, Dims: t.Dims})
	}
	out, e := infer.Out(n, values)
	if e != api.OK {
		return api.Tensor{}, e
	}
	t := api.Tensor{Type: out.Type, Dims: out.Dims}
	for i := range spell.Size(out.Dims) {
		x, e := slowElement(n, in, spell.Coords(out.Dims, i), i)
		if e != api.OK {
			return api.Tensor{}, e
		}
		t.Data = append(t.Data, x)
	}
	return t, api.OK
}

func someInts(r *rand.Rand, name string, length int, least, most int64) api.Attr {
	a := api.Attr{Name: name, Kind: api.AttrInts}
	for range length {
		a.Ints = append(a.Ints, least+r.Int63n(most-least+1))
	}
	return a
}

func someInt(r *rand.Rand, name string, least, most int) api.Attr {
	return api.Attr{Name: name, Kind: api.AttrInt, I: int64(least + r.Intn(most-least+1))}
}

// numbered has elements that are all unlike.
func numbered(typ int, dims []int) api.Tensor {
	t := api.Tensor{Type: typ, Dims: dims}
	for i := range spell.Size(dims) {
		t.Data = append(t.Data, int64(100+i))
	}
	if typ == api.Bool {
		for i := range t.Data {
			t.Data[i] %= 2
		}
	}
	return t
}

func someDims(r *rand.Rand, rank int) []int {
	dims := make([]int, rank)
	for i := range dims {
		dims[i] = 1 + r.Intn(3)
	}
	return dims
}

// someAttrs fit in most cases, and now and then do not.
func someAttrs(r *rand.Rand, op string, dims []int) []api.Attr {
	rank := len(dims)
	var l []api.Attr
	switch op {
	case "Reshape":
		a := someInts(r, "shape", 1+r.Intn(rank+1), -1, 6)
		a.Ints[r.Intn(len(a.Ints))] = -1
		l = append(l, a)
	case "Expand":
		a := someInts(r, "shape", r.Intn(6), 1, 3)
		for i := range min(rank, len(a.Ints)) {
			a.Ints[len(a.Ints)-1-i] = max(1, int64(dims[rank-1-i])*r.Int63n(2))
		}
		l = append(l, a)
	case "Transpose":
		a := api.Attr{Name: "perm", Kind: api.AttrInts}
		for _, p := range r.Perm(rank) {
			a.Ints = append(a.Ints, int64(p))
		}
		l = append(l, a)[r.Intn(4)/3:]
	case "Concat", "Gather", "Flatten":
		l = append(l, someInt(r, "axis", -rank, rank))
		if op != "Concat" {
			l = l[r.Intn(4)/3:]
		}
	case "Slice":
		many := r.Intn(rank + 1)
		l = append(l, someInts(r, "starts", many, -4, 2), someInts(r, "ends", many, 0, 4))
		if axes := someInts(r, "axes", many, int64(-rank), int64(rank)); r.Intn(2) == 0 {
			l = append(l, axes)
		}
	case "Pad":
		l = append(l, someInts(r, "pads", 2*rank, 0, 2))
		if r.Intn(2) == 0 {
			l = append(l, api.Attr{Name: "value", Kind: api.AttrFloat, F: spell.Bits("-1.5")})
		}
	case "Squeeze", "Unsqueeze":
		l = append(l, someInts(r, "axes", r.Intn(3), int64(-rank), int64(rank)))
	case "Constant":
		l = append(l, api.Attr{Name: "value", Kind: api.AttrTensor, T: numbered(someType(r), dims)})
	}
	return l
}

func someType(r *rand.Rand) int { return []int{api.Float, api.Int32, api.Int64, api.Bool}[r.Intn(4)] }

func someNode(r *rand.Rand, op string) (api.Node, []api.Tensor) {
	dims := someDims(r, r.Intn(5))
	if op == "Squeeze" {
		for i := range dims {
			dims[i] = max(1, dims[i]-1)
		}
	}
	x := numbered(someType(r), dims)
	if op == "Pad" {
		x.Type = api.Float
	}
	in := []api.Tensor{x}
	attrs := someAttrs(r, op, dims)
	switch op {
	case "Constant":
		in = nil
	case "Gather":
		index := api.Tensor{Type: api.Int32 + r.Intn(2), Dims: someDims(r, r.Intn(3))}
		for range spell.Size(index.Dims) {
			index.Data = append(index.Data, int64(r.Intn(5)-2))
		}
		in = append(in, index)
	case "Concat":
		for range r.Intn(4) {
			d := slices.Clone(dims)
			if k, ok := place(attrs[0].I, len(d)); ok {
				d[k] = 1 + r.Intn(3)
			}
			in = append(in, numbered(x.Type, d))
		}
	}
	n := spell.Op(op, len(in))
	n.Attrs = attrs
	return n, in
}

const operators = "Reshape Expand Transpose Concat Slice Gather Pad Squeeze Unsqueeze Flatten Constant"

func TestAgainstTheDefinition(t *testing.T) {
	r := rand.New(rand.NewSource(10))
	for _, op := range strings.Fields(operators) {
		well := 0
		for range 3000 {
			n, in := someNode(r, op)
			got, e := Do(n, in)
			want, wantError := slowDo(n, in)
			if e != wantError || !spell.Same(got, want) {
				t.Fatalf("P10.1: %v of %v: %v, %d, not %v, %d", n, in, got, e, want, wantError)
			}
			if e == api.OK {
				well++
				expectMoved(t, n, in, got)
			}
		}
		if well < 300 {
			t.Errorf("%s: %d of 3000 without an error", op, well)
		}
	}
}

// expectMoved: what comes out may be, and but for Pad each element is one of the inputs'.
func expectMoved(t *testing.T, n api.Node, in []api.Tensor, out api.Tensor) {
	t.Helper()
	if pb.Check(out) != api.OK {
		t.Fatalf("P10.1: %v of %v: %v, which may not be", n, in, out)
	}
	if n.Op == "Pad" || n.Op == "Constant" {
		return
	}
	for _, x := range out.Data {
		if !slices.ContainsFunc(in, func(t api.Tensor) bool { return slices.Contains(t.Data, x) }) {
			t.Fatalf("P10.2: %v of %v: %d is no element of an input", n, in, x)
		}
	}
}

func transposed(t *testing.T, x api.Tensor, perm []int) api.Tensor {
	t.Helper()
	n := spell.Op("Transpose", 1)
	a := api.Attr{Name: "perm", Kind: api.AttrInts}
	for _, p := range perm {
		a.Ints = append(a.Ints, int64(p))
	}
	n.Attrs = append(n.Attrs, a)
	y, e := Do(n, []api.Tensor{x})
	if e != api.OK {
		t.Fatalf("P10.1: Transpose of %d by %d: %d", x.Dims, perm, e)
	}
	return y
}

func TestOppositeOrders(t *testing.T) {
	r := rand.New(rand.NewSource(11))
	for range 2000 {
		x := numbered(api.Int64, someDims(r, r.Intn(7)))
		perm := r.Perm(len(x.Dims))
		opposite := make([]int, len(perm))
		for i, p := range perm {
			opposite[p] = i
		}
		if y := transposed(t, transposed(t, x, perm), opposite); !spell.Same(x, y) {
			t.Fatalf("P10.2: %v by %d and its opposite: %v", x, perm, y)
		}
	}
}

// As many elements as may be, in rows of one.
func TestGreatTensors(t *testing.T) {
	x := numbered(api.Int32, []int{256, 256})
	y, e := Do(spell.Op("Transpose", 1), []api.Tensor{x})
	if e != api.OK || y.Data[1] != 100+256 || y.Data[256] != 101 || y.Data[65535] != 100+65535 {
		t.Errorf("P10.1: Transpose: %d", e)
	}
	half := numbered(api.Int32, []int{32768, 1})
	z, e := Do(spell.Op("Concat; axis=1", 2), []api.Tensor{half, half})
	if e != api.OK || len(z.Data) != api.MaxElems || z.Data[0] != 100 || z.Data[1] != 100 || z.Data[65535] != 100+32767 {
		t.Errorf("P10.1: Concat: %d", e)
	}
	flat := numbered(api.Int64, []int{65536})
	index := api.Tensor{Type: api.Int64, Dims: flat.Dims}
	for i := range flat.Data {
		index.Data = append(index.Data, int64(-1-i))
	}
	z, e = Do(spell.Op("Gather", 2), []api.Tensor{flat, index})
	if e != api.OK || z.Data[0] != 100+65535 || z.Data[65535] != 100 {
		t.Errorf("P10.1: Gather: %d", e)
	}
	index.Data[65535] = 65536
	if _, e = Do(spell.Op("Gather", 2), []api.Tensor{flat, index}); e != api.ErrIndex {
		t.Errorf("P10.1: Gather of one too far: %d", e)
	}
	one := spell.Tensor("f 1: 7")
	if z, e = Do(spell.Op("Pad; pads=65535 0", 1), []api.Tensor{one}); e != api.OK || len(z.Data) != api.MaxElems || z.Data[65535] != one.Data[0] || z.Data[65534] != 0 {
		t.Errorf("P10.1: Pad: %d", e)
	}
}
