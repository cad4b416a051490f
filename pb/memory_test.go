package pb

import (
	"cmp"
	"reflect"
	"slices"
	"strings"
	"testing"
	"unsafe"

	"mandrel/api"
)

// span is where a list with its spare room, or a text, lies.
type span struct{ from, to uintptr }

// spans are those of all lists, or of all texts, within something.
func spans(v reflect.Value, kind reflect.Kind) []span {
	var l []span
	switch v.Kind() {
	case reflect.Struct:
		for i := range v.NumField() {
			l = append(l, spans(v.Field(i), kind)...)
		}
	case reflect.String:
		s := v.String()
		if at := uintptr(unsafe.Pointer(unsafe.StringData(s))); kind == reflect.String && s != "" {
			l = append(l, span{at, at + uintptr(len(s))})
		}
	case reflect.Slice:
		if at := v.Pointer(); kind == reflect.Slice && v.Cap() > 0 {
			l = append(l, span{at, at + uintptr(v.Cap())*v.Type().Elem().Size()})
		}
		for i := range v.Len() {
			l = append(l, spans(v.Index(i), kind)...)
		}
	}
	return l
}

func meet(l []span) bool {
	slices.SortFunc(l, func(a, b span) int { return cmp.Compare(a.from, b.from) })
	for i := range l {
		if i > 0 && l[i-1].to > l[i].from {
			return true
		}
	}
	return false
}

func TestMemoryOfDecode(t *testing.T) {
	g := someGraph()
	for i := range 5 {
		g.Nodes = append(g.Nodes, g.Nodes[i])
	}
	text, _ := Encode(g)
	first, _ := Decode(text)
	second, _ := Decode(text)
	lists := append(spans(reflect.ValueOf(first), reflect.Slice), spans(reflect.ValueOf(second), reflect.Slice)...)
	if len(lists) < 50 || meet(lists) {
		t.Errorf("R5: lists of what Decode answers share memory")
	}
	for _, s := range spans(reflect.ValueOf(first), reflect.String) {
		if meet([]span{s, spans(reflect.ValueOf(text), reflect.String)[0]}) {
			t.Errorf("R5: a name that Decode answers lies within its argument")
		}
	}
	if !same(first, second) {
		t.Errorf("R6: Decode answers %v and then %v", first, second)
	}
}

// TestMemoryOfTensors has elements and ints of each form: none is to keep the memory of another.
func TestMemoryOfTensors(t *testing.T) {
	s := inNode(
		bytes(5, number(20, 7), packed(8, 1, 2, 3), number(8, 4)),
		bytes(5, number(20, 4), bytes(5, packed(1, 2, 2), number(2, api.Float), bytes(4, lowestFirst(4, 1, 2)), bytes(4, lowestFirst(4, 3, 4)))),
		bytes(5, number(20, 4), bytes(5, packed(1, 2, 2), number(2, api.Int32), packed(5, 1, 2, 3), number(5, 4))),
		bytes(5, number(20, 4), bytes(5, packed(1, 2, 2), number(2, api.Int64), bytes(9, lowestFirst(8, 1, 2, 3, 4)))),
	)
	g, e := Decode(s)
	if e != api.OK || meet(spans(reflect.ValueOf(g), reflect.Slice)) {
		t.Errorf("R5: lists of what Decode answers share memory: %d", e)
	}
}

// roomy is a list with spare room, all of which must stay as it is.
func roomy[T any](l []T) []T {
	return append(slices.Clone(l), l...)[:len(l)]
}

func roomyGraph() api.Graph {
	g := someGraph()
	g.Nodes, g.In, g.Out, g.Inits = roomy(g.Nodes), roomy(g.In), roomy(g.Out), roomy(g.Inits)
	n := &g.Nodes[1]
	n.In, n.Attrs = roomy(n.In), roomy(n.Attrs)
	for i := range n.Attrs {
		n.Attrs[i].Ints = roomy(n.Attrs[i].Ints)
	}
	for i := range g.Inits {
		g.Inits[i].T.Dims, g.Inits[i].T.Data = roomy(g.Inits[i].T.Dims), roomy(g.Inits[i].T.Data)
	}
	return g
}

// room is what lies in a graph's lists and their spare room.
func room(g api.Graph) []any {
	l := []any{slices.Clone(g.Nodes[:cap(g.Nodes)]), slices.Clone(g.In[:cap(g.In)]), slices.Clone(g.Out[:cap(g.Out)]), slices.Clone(g.Inits[:cap(g.Inits)])}
	n := g.Nodes[1]
	l = append(l, slices.Clone(n.In[:cap(n.In)]), slices.Clone(n.Attrs[:cap(n.Attrs)]))
	for _, a := range n.Attrs {
		l = append(l, slices.Clone(a.Ints[:cap(a.Ints)]))
	}
	for _, x := range g.Inits {
		l = append(l, slices.Clone(x.T.Dims[:cap(x.T.Dims)]), slices.Clone(x.T.Data[:cap(x.T.Data)]))
	}
	return l
}

func TestMemoryOfEncode(t *testing.T) {
	g := roomyGraph()
	old := room(g)
	s, _ := Encode(g)
	if !same(g, someGraph()) || !reflect.DeepEqual(room(g), old) {
		t.Errorf("R5: Encode changes what it is given")
	}
	kept := strings.Clone(s)
	g.Nodes[1].Attrs[1].I, g.Inits[2].T.Data[0] = 5, 5
	other, _ := Encode(g)
	if again, e := Encode(someGraph()); e != api.OK || again != kept || s != kept || other == kept {
		t.Errorf("R5, R6: Encode answers otherwise behind a change of what it was given")
	}
	g.Nodes[1].Attrs[1].S = "wrong"
	old = room(g)
	if _, e := Encode(g); e != api.ErrArg || !reflect.DeepEqual(room(g), old) {
		t.Errorf("R3, R5: Encode, with the error %d, changes what it is given", e)
	}
}

func TestMemoryOfCheck(t *testing.T) {
	x := api.Tensor{Type: api.Float, Dims: roomy([]int{2, 2}), Data: roomy([]int64{1, 2, 3, api.NaN + 1})}
	dims, data := slices.Clone(x.Dims[:cap(x.Dims)]), slices.Clone(x.Data[:cap(x.Data)])
	e := Check(x)
	if e != api.ErrGraph || !slices.Equal(x.Dims[:cap(x.Dims)], dims) || !slices.Equal(x.Data[:cap(x.Data)], data) {
		t.Errorf("P5.1, R5: Check: %d, changes what it is given", e)
	}
}
