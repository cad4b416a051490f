package begin

import (
	"reflect"
	"testing"

	"mandrel/api"
	"mandrel/infer"
	"mandrel/spell"
)

// What a node begins with: tensors that may not be, then whatever infer.Out answers.
func TestNode(t *testing.T) {
	for _, c := range []struct {
		node, in string
		e        api.Errno
	}{
		{"Add", "i 2 1: 1 2, i 3: 1 2 3", api.OK},
		{"Constant; value=f: 1", "", api.OK},
		{"Less; then=Not", "f: 1, f 1: nan", api.OK},
		{"Neg", "i 2: 1", api.ErrArg},
		{"Neg", "i 2: 1 2 3", api.ErrArg},
		{"Neg", "i 0:", api.ErrArg},
		{"Neg", "i -1: 1", api.ErrArg},
		{"Neg", "i 1 1 1 1 1 1 1: 1", api.ErrArg},
		{"Neg", "3: 1", api.ErrArg},
		{"Neg", "0:", api.ErrArg},
		{"Not", "b 2: 1 2", api.ErrArg},
		{"Neg", "i: 2147483648", api.ErrArg},
		{"Add", "i: 1, i: -2147483649", api.ErrArg},
		{"Neg", "i: 1, i: 1", api.ErrGraph},
		{"Neg", "b: 1", api.ErrGraph},
		{"Add", "i: 1, l: 1", api.ErrGraph},
		{"Add", "i 2: 1 2, i 3: 1 2 3", api.ErrGraph},
		{"What", "i: 1", api.ErrUnsupported},
		{"Neg; axis=1", "i: 1", api.ErrUnsupported},
		{"Cast; to=2", "i: 1", api.ErrUnsupported},
		{"Reshape; shape=1 1 1 1 1 1 1", "i: 1", api.ErrLimit},
		{"Neg; then=Not", "i: 1", api.ErrGraph},
		// R2: the first one that is met.
		{"What", "i: 1, b: 2", api.ErrArg},
		{"Neg; axis=1", "3: 1", api.ErrArg},
		{"Cast; to=2", "b: 2", api.ErrArg},
		{"Neg; then=Not", "i 2: 1", api.ErrArg},
	} {
		in := spell.Tensors(c.in)
		n := spell.Op(c.node, len(in))
		v, e := Node(n, in)
		var values []api.Value
		for _, x := range in {
			values = append(values, api.Value{Type: x.Type, Dims: x.Dims})
		}
		want := api.Value{}
		if c.e == api.OK {
			want, _ = infer.Out(n, values)
		}
		if e != c.e || !reflect.DeepEqual(v, want) {
			t.Errorf("%s of %s: %v, %d, not %v, %d", c.node, c.in, v, e, want, c.e)
		}
	}
}

// As many tensors as the node has inputs.
func TestNumberOfTensors(t *testing.T) {
	for _, in := range []string{"", "i: 1", "i: 1, i: 1, i: 1"} {
		if _, e := Node(spell.Op("Add", 2), spell.Tensors(in)); e != api.ErrGraph {
			t.Errorf("Add of %q: %d", in, e)
		}
	}
}

func TestDo(t *testing.T) {
	in := spell.Tensors("i 2: 5 6")
	n := spell.Op("Cast; to=1", 1)
	did := 0
	work := func(m api.Node, l []api.Tensor, out api.Value) ([]int64, api.Errno) {
		did++
		if !reflect.DeepEqual(m, n) || !reflect.DeepEqual(l, in) || out.Type != api.Float || !reflect.DeepEqual(out.Dims, []int{2}) {
			t.Errorf("done of %v, %v, %v", m, l, out)
		}
		return []int64{7, 8}, api.OK
	}
	if got, e := Do(n, in, work); e != api.OK || !reflect.DeepEqual(got, api.Tensor{Type: api.Float, Dims: []int{2}, Data: []int64{7, 8}}) || did != 1 {
		t.Errorf("%v, %d, done %d times", got, e, did)
	}
	if got, e := Do(spell.Op("Cast; to=2", 1), in, work); e != api.ErrUnsupported || !reflect.DeepEqual(got, api.Tensor{}) || did != 1 {
		t.Errorf("to no type: %v, %d, done %d times", got, e, did)
	}
	wrong := func(api.Node, []api.Tensor, api.Value) ([]int64, api.Errno) { return []int64{1}, api.ErrDivide }
	if got, e := Do(n, in, wrong); e != api.ErrDivide || !reflect.DeepEqual(got, api.Tensor{}) {
		t.Errorf("R3: %v, %d", got, e)
	}
}

func TestFit(t *testing.T) {
	inputs := []api.Value{spell.Value("x f 2 1"), spell.Value("n l")}
	for in, want := range map[string]bool{
		"f 2 1: 1 nan, l: -5":        true,
		"":                           false,
		"f 2 1: 1 2":                 false,
		"f 2 1: 1 2, l: 5, l: 5":     false,
		"l: 5, f 2 1: 1 2":           false,
		"f 2 1: 1 2, i: 5":           false,
		"i 2 1: 1 2, l: 5":           false,
		"f 1 2: 1 2, l: 5":           false,
		"f 2: 1 2, l: 5":             false,
		"f 2 1 1: 1 2, l: 5":         false,
		"f 2 1: 1 2, l 1: 5":         false,
		"f 2 1: 1, l: 5":             false,
		"f 2 1: 1 2 3, l: 5":         false,
		"f 2 1: 1 2, l:":             false,
		"f 2 1: 1 2, l: 5 6":         false,
		"f 0 1:, l: 5":               false,
		"f 2 1 1 1 1 1 1: 1 2, l: 5": false,
	} {
		if got := Fit(inputs, spell.Tensors(in)); got != want {
			t.Errorf("%q: %t", in, got)
		}
	}
	wrong := []api.Tensor{{Type: api.Float, Dims: []int{2, 1}, Data: []int64{0, api.NaN + 1}}, spell.Tensor("l: 5")}
	if Fit(inputs, wrong) || !Fit(nil, nil) {
		t.Errorf("a tensor that may not be, or no inputs at all")
	}
	// A type or dims that no tensor has.
	for _, text := range []string{"x 3 1", "x f 0", "x f -1"} {
		if Fit([]api.Value{spell.Value(text)}, spell.Tensors("f 1: 1")) {
			t.Errorf("%s is one", text)
		}
	}
}
