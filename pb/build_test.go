package pb

import (
	"reflect"
	"slices"
	"strings"
	"testing"

	"mandrel/api"
	"mandrel/wire"
)

func write(f api.Field) string {
	s, e := wire.Write([]api.Field{f})
	if e != api.OK {
		panic("a test's field can't be written")
	}
	return s
}

func number(num int, x int64) string {
	return write(api.Field{Num: num, Kind: api.WireVarint, U: uint64(x)})
}

func bits32(num int, u uint64) string { return write(api.Field{Num: num, Kind: api.Wire32, U: u}) }

func bits64(num int, u uint64) string { return write(api.Field{Num: num, Kind: api.Wire64, U: u}) }

// bytes is a field of bytes, of parts put together.
func bytes(num int, parts ...string) string {
	return write(api.Field{Num: num, Kind: api.WireBytes, B: strings.Join(parts, "")})
}

func packed(num int, l ...int64) string {
	s := ""
	for _, x := range l {
		s += wire.Varint(uint64(x))
	}
	return bytes(num, s)
}

// lowestFirst are numbers as bytes, of a width each.
func lowestFirst(width int, l ...uint64) string {
	var b []byte
	for _, u := range l {
		for i := range width {
			b = append(b, byte(u>>(8*i)))
		}
	}
	return string(b)
}

// The wrappings: a model around the fields of one of its messages, with what else that message needs ahead.

func inGraph(fields ...string) string { return bytes(7, fields...) }

func inNode(fields ...string) string {
	return inGraph(bytes(1, bytes(2, "y")+strings.Join(fields, "")))
}

func inAttr(fields ...string) string { return inNode(bytes(5, fields...)) }

func inInit(fields ...string) string { return inGraph(bytes(5, fields...)) }

func inValue(fields ...string) string { return inGraph(bytes(11, fields...)) }

func inType(fields ...string) string { return inValue(bytes(2, fields...)) }

func inTensorType(fields ...string) string { return inType(bytes(1, fields...)) }

func inShape(fields ...string) string { return inTensorType(number(1, api.Int32), bytes(2, fields...)) }

func inDim(fields ...string) string { return inShape(bytes(1, fields...)) }

// valueFields are those of a good value's message, of the type Float, with a dim of 2.
func valueFields(name string) string {
	return bytes(1, name) + bytes(2, bytes(1, number(1, api.Float), bytes(2, bytes(1, number(1, 2)))))
}

// messages are all messages of the tables: a good one within a model, with room for one more field behind; and which kinds its known fields may have.
type messageRow struct {
	name  string
	with  func(field string) string
	kinds map[int][]int
}

func messages() []messageRow {
	v, b, f := []int{api.WireVarint}, []int{api.WireBytes}, []int{api.Wire32}
	vb, fb := []int{api.WireVarint, api.WireBytes}, []int{api.Wire32, api.WireBytes}
	tensor := map[int][]int{1: vb, 2: v, 4: fb, 5: vb, 7: vb, 8: b, 9: b}
	return []messageRow{
		{"model", func(x string) string { return bytes(7) + x }, map[int][]int{7: b}},
		{"graph", func(x string) string { return inGraph(x) }, map[int][]int{1: b, 2: b, 5: b, 11: b, 12: b}},
		{"node", func(x string) string { return inNode(x) }, map[int][]int{1: b, 2: b, 3: b, 4: b, 5: b, 7: b}},
		{"attribute", func(x string) string { return inAttr(number(20, 2), x) }, map[int][]int{1: b, 2: f, 3: v, 4: b, 5: b, 8: vb, 20: v}},
		{"initializer", func(x string) string { return inInit(number(2, api.Bool), number(5, 1), x) }, tensor},
		{"attribute's tensor", func(x string) string {
			return inAttr(number(20, 4), bytes(5, number(2, api.Bool), number(5, 1), x))
		}, tensor},
		{"value", func(x string) string { return inValue(valueFields("x"), x) }, map[int][]int{1: b, 2: b}},
		{"output", func(x string) string { return inGraph(bytes(12, valueFields("x"), x)) }, map[int][]int{1: b, 2: b}},
		{"type", func(x string) string { return inType(bytes(1, number(1, api.Float), bytes(2)), x) }, map[int][]int{1: b}},
		{"tensor type", func(x string) string { return inTensorType(number(1, api.Float), bytes(2), x) }, map[int][]int{1: v, 2: b}},
		{"shape", func(x string) string { return inShape(x) }, map[int][]int{1: b}},
		{"dim", func(x string) string { return inDim(number(1, 3), x) }, map[int][]int{1: v, 2: b}},
	}
}

// plain is a graph with nil in the place of each empty list, so that graphs can be held against each other.
func plain(g api.Graph) api.Graph {
	g.Nodes, g.Inits = none(g.Nodes), none(g.Inits)
	g.In, g.Out = plainValues(g.In), plainValues(g.Out)
	for i := range g.Nodes {
		n := &g.Nodes[i]
		n.In, n.Attrs = none(n.In), none(n.Attrs)
		for k := range n.Attrs {
			n.Attrs[k].Ints = none(n.Attrs[k].Ints)
			n.Attrs[k].T = plainTensor(n.Attrs[k].T)
		}
	}
	for i := range g.Inits {
		g.Inits[i].T = plainTensor(g.Inits[i].T)
	}
	return g
}

func plainValues(l []api.Value) []api.Value {
	l = none(l)
	for i := range l {
		l[i].Dims = none(l[i].Dims)
	}
	return l
}

func plainTensor(t api.Tensor) api.Tensor {
	return api.Tensor{Type: t.Type, Dims: none(t.Dims), Data: none(t.Data)}
}

// none is a copy, or nil, if the list is empty.
func none[T any](l []T) []T {
	if len(l) == 0 {
		return nil
	}
	return slices.Clone(l)
}

func same(a, b api.Graph) bool { return reflect.DeepEqual(plain(a), plain(b)) }

func expectGraph(t *testing.T, s string, want api.Graph) {
	t.Helper()
	g, e := Decode(s)
	if e != api.OK || !same(g, want) {
		t.Errorf("P5.2: %.80x: %.300v, %d, not %.300v", s, g, e, want)
	}
}

func expectError(t *testing.T, s string, want api.Errno) {
	t.Helper()
	g, e := Decode(s)
	if e != want || !reflect.DeepEqual(g, api.Graph{}) {
		t.Errorf("P5.2, R2, R3: %.80x: %.300v, %d, not error %d", s, g, e, want)
	}
}

// expectEither asks for OK, or for an error, if there is one.
func expectEither(t *testing.T, s string, want api.Errno) {
	t.Helper()
	if want != api.OK {
		expectError(t, s, want)
		return
	}
	if _, e := Decode(s); e != api.OK {
		t.Errorf("P5.2: %.80x: %d", s, e)
	}
}

// attrOf reads an attribute's fields.
func attrOf(t *testing.T, fields ...string) api.Attr {
	t.Helper()
	g, e := Decode(inAttr(fields...))
	if e != api.OK || len(g.Nodes) != 1 || len(g.Nodes[0].Attrs) != 1 {
		t.Fatalf("P5.2: attribute of %x: %v, %d", fields, g, e)
	}
	return g.Nodes[0].Attrs[0]
}

// expectTensor reads a tensor's fields as an initializer and as an attribute.
func expectTensor(t *testing.T, typ int, dims []int, data []int64, fields ...string) {
	t.Helper()
	want := api.Tensor{Type: typ, Dims: dims, Data: data}
	expectGraph(t, inInit(fields...), api.Graph{Inits: []api.Named{{T: want}}})
	got := attrOf(t, number(20, api.AttrTensor), bytes(5, fields...))
	if !reflect.DeepEqual(plainTensor(got.T), plainTensor(want)) {
		t.Errorf("P5.2: tensor of %x: %v, not %v", fields, got.T, want)
	}
}

func expectNoTensor(t *testing.T, want api.Errno, fields ...string) {
	t.Helper()
	expectError(t, inInit(fields...), want)
	for kind := range int64(9) {
		expectError(t, inAttr(number(20, kind), bytes(5, fields...)), want)
	}
}
