package spell

import (
	"reflect"
	"testing"

	"mandrel/api"
)

func TestGraph(t *testing.T) {
	got := Graph(`
		in x f 2 3
		in n l
		init w i 2: -1 7
		z = Conv(x, w); group=2; pads=1 -2; then=Relu,Neg
		c = Constant(); value=b: 1
		p = Pad(x); pads=; value=nan
		out z f
		out c 2 65537
	`)
	want := api.Graph{
		In:    []api.Value{{Name: "x", Type: api.Float, Dims: []int{2, 3}}, {Name: "n", Type: api.Int64}},
		Inits: []api.Named{{Name: "w", T: api.Tensor{Type: api.Int32, Dims: []int{2}, Data: []int64{-1, 7}}}},
		Nodes: []api.Node{
			{Op: "Conv", In: []string{"x", "w"}, Out: "z", Attrs: []api.Attr{
				{Name: "group", Kind: api.AttrInt, I: 2},
				{Name: "pads", Kind: api.AttrInts, Ints: []int64{1, -2}},
				{Name: "then", Kind: api.AttrString, S: "Relu,Neg"},
			}},
			{Op: "Constant", Out: "c", Attrs: []api.Attr{{Name: "value", Kind: api.AttrTensor, T: api.Tensor{Type: api.Bool, Data: []int64{1}}}}},
			{Op: "Pad", In: []string{"x"}, Out: "p", Attrs: []api.Attr{
				{Name: "pads", Kind: api.AttrInts},
				{Name: "value", Kind: api.AttrFloat, F: api.NaN},
			}},
		},
		Out: []api.Value{{Name: "z", Type: api.Float}, {Name: "c", Type: 2, Dims: []int{65537}}},
	}
	if !reflect.DeepEqual(got, want) {
		t.Errorf("read as %v, not %v", got, want)
	}
}

func TestElements(t *testing.T) {
	got := Tensor("f 5: 1 -0 inf 0.1 nan")
	want := []int64{0x3f800000, 0x80000000, 0x7f800000, 0x3dcccccd, api.NaN}
	if !reflect.DeepEqual(got.Data, want) {
		t.Errorf("read as %x, not %x", got.Data, want)
	}
}

func TestWhatCannotBeRead(t *testing.T) {
	for _, text := range []string{"z = Neg", "in x", "in x g 2", "in x f two", "init w f 1: one", "z = Neg(x); axis=?", "z = Clip(x); min=low"} {
		func() {
			defer func() {
				if recover() == nil {
					t.Errorf("%s: read", text)
				}
			}()
			Graph(text)
		}()
	}
}
