package infer

import (
	"testing"

	"mandrel/api"
	"mandrel/spell"
)

// fault is something wrong in a node or in what it is given, and the error that it has by itself.
type fault struct {
	name string
	make func(*api.Node, *[]api.Value)
	e    api.Errno
}

func expectFirst(t *testing.T, faultless func() (api.Node, []api.Value), faults []fault) {
	t.Helper()
	n, in := faultless()
	if _, e := Out(n, in); e != api.OK {
		t.Errorf("P8.1: %v without a fault: %d", n, e)
	}
	for i, first := range faults {
		n, in := faultless()
		first.make(&n, &in)
		if _, e := Out(n, in); e != first.e {
			t.Errorf("P8.1: %s, %s: %d, not %d", n.Op, first.name, e, first.e)
		}
		for _, later := range faults[i+1:] {
			n, in := faultless()
			later.make(&n, &in)
			first.make(&n, &in)
			if _, e := Out(n, in); e != first.e {
				t.Errorf("R2: %s, %s, then %s: %d, not %d", n.Op, first.name, later.name, e, first.e)
			}
		}
	}
}

func attribute(a api.Attr) func(*api.Node, *[]api.Value) {
	return func(n *api.Node, in *[]api.Value) { n.Attrs = append(n.Attrs, a) }
}

func typed(i, typ int) func(*api.Node, *[]api.Value) {
	return func(n *api.Node, in *[]api.Value) { (*in)[i].Type = typ }
}

func sized(i int, dims ...int) func(*api.Node, *[]api.Value) {
	return func(n *api.Node, in *[]api.Value) { (*in)[i].Dims = dims }
}

// What stands ahead of the table, then the table, then what stands behind it.
func TestTheFirstErrorOfCast(t *testing.T) {
	expectFirst(t, func() (api.Node, []api.Value) { return spell.Op("Cast; to=9", 1), valuesOf("f 2") }, []fault{
		{"schema", attribute(api.Attr{Name: "what"}), api.ErrUnsupported},
		{"count", func(n *api.Node, in *[]api.Value) { *in = append(*in, api.Value{}) }, api.ErrGraph},
		{"type", typed(0, 3), api.ErrUnsupported},
		{"dims too great", sized(0, 65537), api.ErrLimit},
		{"to", func(n *api.Node, in *[]api.Value) { n.Attrs[0].I = 8 }, api.ErrUnsupported},
		{"then", attribute(api.Attr{Name: "then", Kind: api.AttrString, S: "Relu"}), api.ErrGraph},
	})
}

func TestTheFirstErrorOfAdd(t *testing.T) {
	expectFirst(t, func() (api.Node, []api.Value) { return spell.Op("Add", 2), valuesOf("i 256 1, i 1 1 1 256") }, []fault{
		{"schema", attribute(api.Attr{Name: "axis", Kind: api.AttrInt}), api.ErrUnsupported},
		{"count", func(n *api.Node, in *[]api.Value) { *in = (*in)[:1]; (*in)[0].Type = 0 }, api.ErrGraph},
	})
	expectFirst(t, func() (api.Node, []api.Value) { return spell.Op("Add", 2), valuesOf("i 256 1, i 1 1 1 256") }, []fault{
		{"first type", typed(0, 0), api.ErrUnsupported},
		{"first dims", sized(0, 65537, 1), api.ErrLimit},
		{"second type", typed(1, 0), api.ErrUnsupported},
		{"second dims", sized(1, 3, 0), api.ErrGraph},
		{"types unlike", typed(0, api.Int64), api.ErrGraph},
		{"too great", sized(1, 2, 1, 1, 256), api.ErrLimit},
		{"then", attribute(api.Attr{Name: "then", Kind: api.AttrString, S: "Relu"}), api.ErrGraph},
	})
}

// A rule that is ErrGraph counts ahead of one that is another error.
func TestTheFirstErrorOfMatMul(t *testing.T) {
	expectFirst(t, func() (api.Node, []api.Value) { return spell.Op("MatMul", 2), valuesOf("f 300 1 1 2, f 1 2 3") }, []fault{
		{"types", typed(1, api.Int32), api.ErrGraph},
		{"inner", func(n *api.Node, in *[]api.Value) { (*in)[0].Dims[3] = 1 }, api.ErrGraph},
		{"ahead", func(n *api.Node, in *[]api.Value) { (*in)[1].Dims[0] = 300 }, api.ErrLimit},
		{"then", attribute(api.Attr{Name: "then", Kind: api.AttrString, S: "Not"}), api.ErrGraph},
	})
}

func TestTheFirstErrorOfReshape(t *testing.T) {
	expectFirst(t, func() (api.Node, []api.Value) { return spell.Op("Reshape; shape=2 -1", 1), valuesOf("l 2 3") }, []fault{
		{"dims", sized(0, 0), api.ErrGraph},
		{"not as many", func(n *api.Node, in *[]api.Value) { n.Attrs[0].Ints[0] = 4 }, api.ErrGraph},
		{"too many dims", func(n *api.Node, in *[]api.Value) { n.Attrs[0].Ints = append(n.Attrs[0].Ints, 1, 1, 1, 1, 1) }, api.ErrLimit},
		{"then", attribute(api.Attr{Name: "then", Kind: api.AttrString, S: "Not"}), api.ErrGraph},
	})
}

func TestTheFirstErrorOfExpand(t *testing.T) {
	expectFirst(t, func() (api.Node, []api.Value) { return spell.Op("Expand; shape=2 1", 1), valuesOf("b 2 3") }, []fault{
		{"below 1", func(n *api.Node, in *[]api.Value) { n.Attrs[0].Ints[1] = 0 }, api.ErrGraph},
		{"too great", func(n *api.Node, in *[]api.Value) { n.Attrs[0].Ints[0] = 65537 }, api.ErrLimit},
		{"then", attribute(api.Attr{Name: "then", Kind: api.AttrString, S: "Neg"}), api.ErrGraph},
	})
}

// Lists of attributes have no bound of their own: they end in time.
func TestLongAttributes(t *testing.T) {
	const many = 200000
	var rising, ones []int64
	for i := range many {
		rising = append(rising, int64(i))
		ones = append(ones, 1)
	}
	for _, c := range []struct {
		node string
		name string
		list []int64
		e    api.Errno
	}{
		{"Unsqueeze", "axes", rising, api.ErrLimit},
		{"Unsqueeze", "axes", ones, api.ErrGraph},
		{"Squeeze", "axes", rising, api.ErrGraph},
		{"ReduceSum", "axes", rising, api.ErrGraph},
		{"Transpose", "perm", rising, api.ErrGraph},
		{"Reshape", "shape", ones, api.ErrLimit},
		{"Expand", "shape", ones, api.ErrLimit},
		{"Slice; ends=1", "starts", ones, api.ErrGraph},
		{"Pad", "pads", ones, api.ErrGraph},
	} {
		n := spell.Op(c.node, 1)
		n.Attrs = append(n.Attrs, api.Attr{Name: c.name, Kind: api.AttrInts, Ints: c.list})
		if _, e := Out(n, valuesOf("f 1")); e != c.e {
			t.Errorf("P8.1: %s with %d numbers: %d, not %d", c.node, many, e, c.e)
		}
	}
}
