package sample

import (
	"slices"

	"mandrel/api"
	"mandrel/spell"
)

// parts are inputs and attributes for an operator. They go together mostly, not always.
func (m *maker) parts(op string) ([]api.Value, []api.Attr) {
	switch op {
	case "Constant":
		t := Tensor(m.pick, m.someType(), m.someDims(m.pick(4)))
		return nil, []api.Attr{{Name: "value", Kind: api.AttrTensor, T: t}}
	case "Not":
		return m.values(m.with(0, api.Bool)), nil
	case "And", "Or", "Xor":
		return m.pair(m.with(0, api.Bool)), nil
	case "Add", "Sub", "Mul", "Max", "Min", "Equal", "Less", "Greater":
		return m.pair(m.any()), nil
	case "Div":
		return m.pair(m.with(0, m.someNumbers())), nil
	case "Where":
		x := m.pair(m.any())
		return m.values(m.beside(x[0], api.Bool), x[0], x[1]), nil
	case "Clip":
		return m.values(m.with(0, api.Float)), m.maybe(m.float("min"), m.float("max"))
	case "Cast":
		return m.values(m.any()), []api.Attr{number("to", m.someType())}
	case "MatMul", "Gemm", "Conv", "MaxPool", "AveragePool", "GlobalAveragePool", "BatchNormalization":
		return m.heavy(op)
	case "Concat", "Gather":
		return m.joined(op)
	}
	x := m.any()
	switch op {
	case "Relu", "Sqrt", "Floor", "Exp", "Sigmoid", "Tanh", "ReduceMean", "Softmax", "Pad":
		x = m.with(0, api.Float)
	case "ReduceSum", "ReduceMax", "ArgMax":
		x = m.with(0, m.someNumbers())
	}
	return m.values(x), m.attrs(op, x.Dims)
}

// attrs are those of operators of one input.
func (m *maker) attrs(op string, dims []int) []api.Attr {
	rank := len(dims)
	switch op {
	case "ReduceSum", "ReduceMax", "ReduceMean":
		return m.maybe(m.someAxes(m.pick(rank+1), rank), number("keepdims", m.pick(2)))
	case "ArgMax":
		return m.maybe(number("axis", m.someAxis(rank)), number("keepdims", m.pick(2)))
	case "Softmax", "Flatten":
		return m.maybe(number("axis", m.someAxis(rank)))
	case "Reshape":
		return []api.Attr{numbers("shape", m.reshaped(dims)...)}
	case "Expand":
		return []api.Attr{numbers("shape", m.widened(dims)...)}
	case "Transpose":
		perm := upTo(rank)
		mix(m.pick, perm)
		return m.maybe(numbers("perm", perm...))
	case "Slice":
		return m.cut(dims)
	case "Pad":
		return append(m.maybe(m.float("value")), numbers("pads", m.some(2*rank, 0, 2)...))
	case "Squeeze":
		return []api.Attr{numbers("axes", m.ones(dims)...)}
	case "Unsqueeze":
		many := m.pick(3)
		return []api.Attr{m.someAxes(many, rank+many)}
	}
	return nil
}

// heavy are the parts of operators that multiply, or go by windows.
func (m *maker) heavy(op string) ([]api.Value, []api.Attr) {
	size := 1 + m.pick(3)
	switch op {
	case "MatMul":
		x := m.with(2+m.pick(2), api.Float)
		return m.values(x, m.floats(x.Dims[len(x.Dims)-1], size)), nil
	case "Gemm":
		x := m.with(2, api.Float)
		l := m.values(x, m.floats(x.Dims[1], size), m.floats(size))
		return l[:2+m.pick(2)], m.maybe(m.float("alpha"), m.float("beta"))
	case "BatchNormalization":
		x := m.with(2+m.pick(3), api.Float)
		c := x.Dims[1]
		return m.values(x, m.floats(c), m.floats(c), m.floats(c), m.floats(c)), m.maybe(m.float("epsilon"))
	}
	x := m.with(4, api.Float)
	strides := numbers("strides", m.some(2, 1, 2)...)
	switch op {
	case "Conv":
		group := []int{1, x.Dims[1]}[m.pick(2)]
		l := m.values(x, m.floats(group*size, x.Dims[1]/group, 1+m.pick(2), 1+m.pick(2)), m.floats(group*size))
		attrs := m.maybe(strides, numbers("pads", m.some(4, 0, 2)...), numbers("dilations", m.some(2, 1, 2)...))
		return l[:2+m.pick(2)], append(attrs, number("group", group))
	case "MaxPool", "AveragePool":
		kernel := m.some(2, 1, 2)
		pads := []int{m.pick(kernel[0]), m.pick(kernel[1]), m.pick(kernel[0]), m.pick(kernel[1])}
		return m.values(x), append(m.maybe(strides, numbers("pads", pads...)), numbers("kernel_shape", kernel...))
	}
	return m.values(x), nil
}

// joined are the parts of a Concat, or of a Gather, whose index is out of range now and then.
func (m *maker) joined(op string) ([]api.Value, []api.Attr) {
	x := m.with(1+m.pick(3), m.someType())
	axis := m.pick(len(x.Dims))
	if op == "Gather" {
		dim := x.Dims[axis]
		t := Tensor(m.pick, []int{api.Int32, api.Int64}[m.pick(2)], m.someDims(m.pick(3)))
		for i := range t.Data {
			t.Data[i] = int64(m.pick(2*dim) - dim + m.pick(40)/39)
		}
		return m.values(x, m.fresh(t)), []api.Attr{number("axis", axis)}
	}
	l := m.values(x)
	for range m.pick(3) {
		dims := slices.Clone(x.Dims)
		dims[axis] = 1 + m.pick(3)
		l = append(l, m.fresh(Tensor(m.pick, x.Type, dims)))
	}
	if m.pick(3) == 0 {
		l = append(l, x)
	}
	return l, []api.Attr{number("axis", axis-len(x.Dims)*m.pick(2))}
}

func (m *maker) values(l ...api.Value) []api.Value { return l }

// any is a value, one of the last ones mostly: so there are long ways from inputs to outputs.
func (m *maker) any() api.Value {
	many := len(m.known)
	if m.pick(2) == 0 {
		many = min(many, 3)
	}
	return m.known[len(m.known)-1-m.pick(many)]
}

// with is a value of a type and a rank (0: of any); a new one, if none was found.
func (m *maker) with(rank int, typ int) api.Value {
	for range 2 * tries {
		if v := m.any(); v.Type == typ && (rank == 0 || len(v.Dims) == rank) {
			return v
		}
	}
	if rank == 0 {
		rank = m.pick(5)
	}
	return m.fresh(Tensor(m.pick, typ, m.someDims(rank)))
}

// pair is a value, with itself, with one that is spread to it, or with another one.
func (m *maker) pair(x api.Value) []api.Value {
	switch m.pick(3) {
	case 0:
		return m.values(x, m.with(len(x.Dims), x.Type))
	case 1:
		return m.values(m.beside(x, x.Type), x)
	}
	return m.values(x, x)
}

// beside is a new value of a type that is spread to another one.
func (m *maker) beside(x api.Value, typ int) api.Value {
	return m.fresh(Tensor(m.pick, typ, spell.Narrowed(x.Dims, m.pick)))
}

func (m *maker) floats(dims ...int) api.Value { return m.fresh(Tensor(m.pick, api.Float, dims)) }

// maybe are some of the attributes.
func (m *maker) maybe(l ...api.Attr) []api.Attr {
	var kept []api.Attr
	for _, a := range l {
		if m.pick(2) == 0 {
			kept = append(kept, a)
		}
	}
	return kept
}

func (m *maker) float(name string) api.Attr {
	return api.Attr{Name: name, Kind: api.AttrFloat, F: element(m.pick, api.Float)}
}

func number(name string, x int) api.Attr {
	return api.Attr{Name: name, Kind: api.AttrInt, I: int64(x)}
}

func numbers(name string, l ...int) api.Attr {
	a := api.Attr{Name: name, Kind: api.AttrInts}
	for _, x := range l {
		a.Ints = append(a.Ints, int64(x))
	}
	return a
}

func upTo(n int) []int {
	l := make([]int, n)
	for i := range l {
		l[i] = i
	}
	return l
}

// some are so many numbers, each of as many as there are from the least one on.
func (m *maker) some(many, least, kinds int) []int {
	l := make([]int, many)
	for i := range l {
		l[i] = least + m.pick(kinds)
	}
	return l
}

func (m *maker) someAxis(rank int) int { return m.pick(max(2*rank, 1)) - rank }

// someAxes are so many of a rank's, in any order.
func (m *maker) someAxes(many, rank int) api.Attr {
	l := upTo(rank)
	mix(m.pick, l)
	l = l[:many]
	for i := range l {
		l[i] -= rank * m.pick(2)
	}
	return numbers("axes", l...)
}

// reshaped are other dims of as many elements: some of them together, some ones, one that is left open.
func (m *maker) reshaped(dims []int) []int {
	var l []int
	for _, d := range dims {
		if len(l) > 0 && m.pick(2) == 0 {
			l[len(l)-1] *= d
		} else {
			l = append(l, d)
		}
	}
	if m.pick(3) == 0 {
		mix(m.pick, l)
	}
	if m.pick(2) == 0 {
		l = slices.Insert(l, m.pick(len(l)+1), 1)
	}
	if len(l) > 0 && m.pick(3) == 0 {
		l[m.pick(len(l))] = -1
	}
	return l
}

// widened are dims to which others are spread.
func (m *maker) widened(dims []int) []int {
	l := slices.Clone(dims)
	for i := range l {
		if l[i] == 1 {
			l[i] = 1 + m.pick(3)
		}
	}
	if m.pick(3) == 0 {
		l = slices.Insert(l, 0, 1+m.pick(2))
	}
	return l
}

// cut are a Slice's attributes.
func (m *maker) cut(dims []int) []api.Attr {
	var starts, ends []int
	for _, d := range dims {
		start := m.pick(d)
		starts = append(starts, start-d*m.pick(2))
		ends = append(ends, start+1+m.pick(d-start+1))
	}
	axes := upTo(len(dims))
	return append(m.maybe(numbers("axes", axes...)), numbers("starts", starts...), numbers("ends", ends...))
}

// ones are the places of some dimensions that are 1.
func (m *maker) ones(dims []int) []int {
	var l []int
	for i, d := range dims {
		if d == 1 && m.pick(2) == 0 {
			l = append(l, i)
		}
	}
	return l
}
