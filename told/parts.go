package told

import (
	"mandrel/api"
	"mandrel/wire"
)

func (t teller) graph(g api.Graph) string {
	var nodes, in, out, inits []api.Field
	for _, n := range g.Nodes {
		nodes = append(nodes, bytes(1, t.node(n)))
	}
	for _, w := range g.Inits {
		inits = append(inits, bytes(5, t.tensor(w.Name, w.T)))
	}
	for _, v := range g.In {
		in = append(in, bytes(11, t.value(v)))
	}
	for _, v := range g.Out {
		out = append(out, bytes(12, t.value(v)))
	}
	return t.message(nodes, t.text(2, g.Name), inits, in, out)
}

func (t teller) node(n api.Node) string {
	var in, attrs []api.Field
	for _, name := range n.In {
		in = append(in, bytes(1, name))
	}
	for _, a := range n.Attrs {
		attrs = append(attrs, bytes(5, t.attr(a)))
	}
	domain := t.text(7, []string{"", "ai.onnx"}[t.pick(2)])
	return t.message(in, []api.Field{bytes(2, n.Out)}, t.text(3, n.Name), t.text(4, n.Op), attrs, domain)
}

// attr has what its kind names, and sometimes something of another kind beside it.
func (t teller) attr(a api.Attr) string {
	f := api.Field{Num: 2, Kind: api.Wire32, U: t.floatBits(a.F)}
	i := api.Field{Num: 3, Kind: api.WireVarint, U: uint64(a.I)}
	has := map[int][]api.Field{api.AttrString: t.text(4, a.S), api.AttrInts: t.numbers(8, a.Ints)}
	if a.Kind == api.AttrFloat || t.pick(4) == 0 {
		has[api.AttrFloat] = t.last(f)
	}
	if a.Kind == api.AttrInt || t.pick(4) == 0 {
		has[api.AttrInt] = t.last(i)
	}
	if a.Kind == api.AttrTensor {
		has[api.AttrTensor] = t.joined(5, t.tensor("of the attribute", a.T))
	}
	return t.message(t.text(1, a.Name), t.number(20, uint64(a.Kind)), has[api.AttrFloat], has[api.AttrInt], has[api.AttrString], has[api.AttrTensor], has[api.AttrInts])
}

// tensor has its elements in the field of its type, or raw.
func (t teller) tensor(name string, x api.Tensor) string {
	var dims []int64
	for _, d := range x.Dims {
		dims = append(dims, int64(d))
	}
	var data []api.Field
	switch {
	case t.pick(2) == 0:
		data = t.last(bytes(9, t.raw(x)))
	case x.Type == api.Float:
		data = t.floats(x.Data)
	case x.Type == api.Int64:
		data = t.numbers(7, x.Data)
	default:
		data = t.numbers(5, x.Data)
	}
	return t.message(t.numbers(1, dims), t.number(2, uint64(x.Type)), data, t.text(8, name))
}

// raw are the bytes of elements, the lowest first.
func (t teller) raw(x api.Tensor) string {
	each := map[int]int{api.Float: 4, api.Int32: 4, api.Int64: 8, api.Bool: 1}[x.Type]
	var b []byte
	for _, element := range x.Data {
		bits := uint64(element)
		if x.Type == api.Float {
			bits = t.floatBits(element)
		}
		for i := range each {
			b = append(b, byte(bits>>(8*i)))
		}
	}
	return string(b)
}

// floatBits are those of a Float: of the NaN, those of any NaN.
func (t teller) floatBits(x int64) uint64 {
	if x == api.NaN {
		return []uint64{api.NaN, api.NaN + 1, 0x7f800001, 0xffffffff}[t.pick(4)]
	}
	return uint64(uint32(x))
}

// floats are fields of one each, or packed, four bytes each.
func (t teller) floats(l []int64) []api.Field {
	if t.pick(2) == 0 {
		return []api.Field{bytes(4, t.raw(api.Tensor{Type: api.Float, Data: l}))}
	}
	var fields []api.Field
	for _, x := range l {
		fields = append(fields, api.Field{Num: 4, Kind: api.Wire32, U: t.floatBits(x)})
	}
	return fields
}

// numbers are fields of one each, or packed ones of some.
func (t teller) numbers(num int, l []int64) []api.Field {
	var fields []api.Field
	for len(l) > 0 {
		some := 1 + t.pick(len(l))
		if t.pick(2) == 0 {
			some = 1
			fields = append(fields, api.Field{Num: num, Kind: api.WireVarint, U: uint64(l[0])})
		} else {
			fields = append(fields, bytes(num, packed(l[:some])))
		}
		l = l[some:]
	}
	return fields
}

func packed(l []int64) string {
	s := ""
	for _, x := range l {
		s += wire.Varint(uint64(x))
	}
	return s
}

func (t teller) value(v api.Value) string {
	var dims []api.Field
	for _, d := range v.Dims {
		dims = append(dims, bytes(1, t.message(t.number(1, uint64(d)))))
	}
	tensorType := t.message(t.number(1, uint64(v.Type)), t.joined(2, t.message(dims)))
	return t.message(t.text(1, v.Name), t.joined(2, t.message(t.joined(1, tensorType))))
}
