// Package sample makes graphs that may be, and inputs for them, for tests: by a function that picks, so that a test tries many of them.
package sample

import (
	"slices"
	"strconv"
	"strings"

	"mandrel/api"
	"mandrel/infer"
	"mandrel/spell"
)

const (
	most  = 120 // elements of a value: tests go through many graphs
	tries = 10  // of a node, until another operator is taken
)

// Pick takes one of the numbers ahead of its own.
type Pick = func(int) int

// All are the operators that there are.
const All = "Identity Neg Abs Not Relu Sqrt Floor Exp Sigmoid Tanh Add Sub Mul Div Max Min And Or Xor Equal Less Greater Where Clip Cast " +
	"ReduceSum ReduceMax ReduceMean ArgMax Reshape Expand Transpose Concat Slice Gather Pad Squeeze Unsqueeze Flatten Softmax " +
	"MatMul Gemm Conv MaxPool AveragePool GlobalAveragePool BatchNormalization Constant"

// maker is a graph that is still being made.
type maker struct {
	pick  Pick
	g     api.Graph
	known []api.Value
}

// Graph has some nodes, of such operators, that read one another's values; they stand in any order. It may have an error as soon as it is run, and values that nobody reads.
func Graph(pick Pick, nodes int, operators string) api.Graph {
	m := &maker{pick: pick}
	for range 1 + pick(3) {
		m.input(m.someType(), m.someDims(pick(5)))
	}
	ops := strings.Fields(operators)
	for range nodes {
		for range tries {
			if m.add(ops[pick(len(ops))]) {
				break
			}
		}
	}
	m.outputs()
	mix(pick, m.g.Nodes)
	return m.g
}

// Inputs are such as a graph takes.
func Inputs(pick Pick, g api.Graph) []api.Tensor {
	var l []api.Tensor
	for _, v := range g.In {
		l = append(l, Tensor(pick, v.Type, v.Dims))
	}
	return l
}

// Tensor has elements of all kinds.
func Tensor(pick Pick, typ int, dims []int) api.Tensor {
	t := api.Tensor{Type: typ, Dims: slices.Clone(dims)}
	for range spell.Size(dims) {
		t.Data = append(t.Data, element(pick, typ))
	}
	return t
}

// element is an ordinary one mostly: what is not finite, or 0, would be all that comes out of many nodes.
func element(pick Pick, typ int) int64 {
	rare := pick(12) == 0
	switch {
	case typ == api.Bool:
		return int64(pick(2))
	case typ == api.Float && rare:
		return spell.Bits(one(pick, "nan inf -inf 0 -0 1e-45 3.4028235e38 16777216"))
	case typ == api.Float:
		return spell.Bits(one(pick, "1 -1 0.5 -2.5 3 0.1 -7 1.000244140625 2 -0.25"))
	case rare:
		return []int64{0, 0, 0, 1<<31 - 1, -1 << 31}[pick(5)]
	}
	return int64(pick(4)+1) * []int64{1, -1}[pick(2)]
}

// one is a word of a text.
func one(pick Pick, text string) string {
	words := strings.Fields(text)
	return words[pick(len(words))]
}

// mix brings a list into any order.
func mix[T any](pick Pick, l []T) {
	for i := range l {
		j := i + pick(len(l)-i)
		l[i], l[j] = l[j], l[i]
	}
}

// add puts one node more behind the others, if what was picked for it goes together.
func (m *maker) add(op string) bool {
	before := *m
	in, attrs := m.parts(op)
	n := api.Node{Op: op, Out: m.name("v"), Attrs: attrs}
	for _, v := range in {
		n.In = append(n.In, v.Name)
	}
	out, e := infer.Out(n, in)
	if e != api.OK || spell.Size(out.Dims) > most {
		*m = before
		return false
	}
	if m.pick(4) == 0 {
		n.Attrs = append(n.Attrs, api.Attr{Name: "then", Kind: api.AttrString, S: m.someThen(out.Type)})
	}
	mix(m.pick, n.Attrs)
	m.g.Nodes = append(m.g.Nodes, n)
	m.known = append(m.known, out)
	return true
}

// someThen are one or some operators that are for a type.
func (m *maker) someThen(typ int) string {
	words := "Identity Neg Abs"
	switch typ {
	case api.Float:
		words += " Relu Sqrt Floor Exp Sigmoid Tanh Neg Abs"
	case api.Bool:
		words = "Identity Not Not"
	}
	text := one(m.pick, words)
	for range m.pick(3) {
		text += "," + one(m.pick, words)
	}
	return text
}

// outputs are some values, the last ones before others: much hangs on those.
func (m *maker) outputs() {
	names := map[string]int{}
	for range 1 + m.pick(3) {
		v := m.any()
		names[v.Name]++
		if names[v.Name] == 1 {
			m.g.Out = append(m.g.Out, api.Value{Name: v.Name, Type: v.Type, Dims: slices.Clone(v.Dims)})
		}
	}
}

// name is one that no value has.
func (m *maker) name(kind string) string { return kind + strconv.Itoa(len(m.known)) }

func (m *maker) input(typ int, dims []int) api.Value {
	v := api.Value{Name: m.name("x"), Type: typ, Dims: dims}
	m.g.In = append(m.g.In, v)
	m.known = append(m.known, v)
	return v
}

// fresh is a new value that no node but a Constant makes.
func (m *maker) fresh(t api.Tensor) api.Value {
	v := api.Value{Type: t.Type, Dims: t.Dims}
	switch m.pick(5) {
	case 0:
		return m.input(t.Type, t.Dims)
	case 1:
		v.Name = m.name("c")
		m.g.Nodes = append(m.g.Nodes, api.Node{Op: "Constant", Out: v.Name, Attrs: []api.Attr{{Name: "value", Kind: api.AttrTensor, T: t}}})
	default:
		v.Name = m.name("w")
		m.g.Inits = append(m.g.Inits, api.Named{Name: v.Name, T: t})
	}
	m.known = append(m.known, v)
	return v
}

func (m *maker) someType() int {
	return []int{api.Float, api.Float, api.Float, api.Int32, api.Int64, api.Bool}[m.pick(6)]
}

// someNumbers are a type of them, each as often as the others.
func (m *maker) someNumbers() int {
	return []int{api.Float, api.Int32, api.Int64}[m.pick(3)]
}

func (m *maker) someDims(rank int) []int {
	l := make([]int, rank)
	for i := range l {
		l[i] = 1 + m.pick(3)
	}
	return l
}
