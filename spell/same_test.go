package spell

import (
	"reflect"
	"testing"

	"mandrel/api"
)

func TestSame(t *testing.T) {
	x := Tensor("i 2: 1 2")
	for text, want := range map[string]bool{"i 2: 1 2": true, "l 2: 1 2": false, "i 1 2: 1 2": false, "i 2: 1 3": false} {
		if Same(x, Tensor(text)) != want {
			t.Errorf("%s: %t", text, !want)
		}
	}
	if !Same(api.Tensor{}, api.Tensor{Dims: []int{}, Data: []int64{}}) {
		t.Errorf("nothing and nothing are unlike")
	}
}

// changes are graphs that are unlike one another in one field or one list each.
func changes(v reflect.Value, told func()) {
	switch v.Kind() {
	case reflect.Struct:
		for i := range v.NumField() {
			changes(v.Field(i), told)
		}
	case reflect.Slice:
		before := v.Interface()
		v.Set(reflect.Append(v.Slice3(0, v.Len(), v.Len()), reflect.Zero(v.Type().Elem())))
		told()
		v.Set(reflect.ValueOf(before))
		for i := range v.Len() {
			changes(v.Index(i), told)
		}
	case reflect.String:
		before := v.String()
		v.SetString(before + "?")
		told()
		v.SetString(before)
	default:
		before := v.Int()
		v.SetInt(before + 1)
		told()
		v.SetInt(before)
	}
}

func TestSameGraphs(t *testing.T) {
	text := "in x f 2 3\ninit w i 2: -1 7\nz = Conv(x, w); group=2; pads=1 -2; then=Relu,Neg\nc = Constant(); value=b 1: 1\nout z f 1\nout c b"
	a, b := Graph(text), Graph(text)
	if !SameGraphs(a, b) || !SameGraphs(api.Graph{}, api.Graph{In: []api.Value{}, Nodes: []api.Node{}}) {
		t.Errorf("alike graphs are unlike")
	}
	many := 0
	changes(reflect.ValueOf(&b).Elem(), func() {
		many++
		if SameGraphs(a, b) || SameGraphs(b, a) {
			t.Errorf("%v and %v are alike", a, b)
		}
	})
	if many < 60 || !SameGraphs(a, b) {
		t.Errorf("%d changes, and %v is left", many, b)
	}
	b.Nodes[0], b.Nodes[1] = b.Nodes[1], b.Nodes[0]
	if SameGraphs(a, b) {
		t.Errorf("nodes in another order are alike")
	}
}
