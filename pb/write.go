package pb

import (
	"strings"

	"mandrel/api"
	"mandrel/wire"
)

// message is one that is put together. A field that says no more than if it were not there is left out.
type message struct {
	fields []api.Field
	size   int
}

// put stops as soon as there is too much, not when all is there: nodes may have gigabytes of tensors.
func (m *message) put(f api.Field) {
	m.size += len(f.B)
	stopIf(m.size > api.MaxBytes, api.ErrLimit)
	m.fields = append(m.fields, f)
}

// bytes puts what counts even if it is empty.
func (m *message) bytes(num int, s string) { m.put(bytesField(num, s)) }

func (m *message) text(num int, s string) {
	if s != "" {
		m.bytes(num, s)
	}
}

func (m *message) number(num int, x int64) {
	if x != 0 {
		m.put(numberField(num, x))
	}
}

func (m *message) numbers(num int, l []int64) {
	if len(l) > 0 {
		m.put(numbersField(num, l))
	}
}

func (m *message) float(num int, bits int64) {
	if bits != 0 {
		m.put(floatField(num, bits))
	}
}

func (m *message) write() string {
	s, e := wire.Write(m.fields)
	stop(e)
	return s
}

func bytesField(num int, s string) api.Field {
	return api.Field{Num: num, Kind: api.WireBytes, B: s}
}

func numberField(num int, x int64) api.Field {
	return api.Field{Num: num, Kind: api.WireVarint, U: uint64(x)}
}

func floatField(num int, bits int64) api.Field {
	return api.Field{Num: num, Kind: api.Wire32, U: uint64(bits)}
}

// numbersField has them packed, but for a single one, which is shorter by itself.
func numbersField(num int, l []int64) api.Field {
	if len(l) == 1 {
		return numberField(num, l[0])
	}
	var b strings.Builder
	for _, x := range l {
		b.WriteString(wire.Varint(uint64(x)))
	}
	return bytesField(num, b.String())
}

func writeModel(g api.Graph) string {
	var m message
	m.bytes(7, writeGraph(g))
	return m.write()
}

func writeGraph(g api.Graph) string {
	var m message
	for _, n := range g.Nodes {
		m.bytes(1, writeNode(n))
	}
	m.text(2, g.Name)
	for _, t := range g.Inits {
		m.bytes(5, writeTensor(t.Name, t.T))
	}
	for _, v := range g.In {
		m.bytes(11, writeValue(v))
	}
	for _, v := range g.Out {
		m.bytes(12, writeValue(v))
	}
	return m.write()
}

func writeNode(n api.Node) string {
	var m message
	for _, name := range n.In {
		m.bytes(1, name)
	}
	m.bytes(2, n.Out)
	m.text(3, n.Name)
	m.text(4, n.Op)
	for _, a := range n.Attrs {
		m.bytes(5, writeAttr(a))
	}
	return m.write()
}

func writeAttr(a api.Attr) string {
	var m message
	m.text(1, a.Name)
	m.float(2, a.F)
	m.number(3, a.I)
	m.text(4, a.S)
	if a.Kind == api.AttrTensor {
		m.bytes(5, writeTensor("", a.T))
	}
	m.numbers(8, a.Ints)
	m.number(20, int64(a.Kind))
	return m.write()
}

func writeTensor(name string, t api.Tensor) string {
	var m message
	m.numbers(1, fromInts(t.Dims))
	m.number(2, int64(t.Type))
	m.put(dataField(t))
	m.text(8, name)
	return m.write()
}

// dataField has a tensor's elements as raw bytes or as numbers, whatever is shorter.
func dataField(t api.Tensor) api.Field {
	bytes := bytesField(9, raw(t))
	switch t.Type {
	case api.Int32, api.Bool:
		return shorter(numbersField(5, t.Data), bytes)
	case api.Int64:
		return shorter(numbersField(7, t.Data), bytes)
	}
	if len(t.Data) == 1 {
		return floatField(4, t.Data[0])
	}
	return bytes
}

func shorter(a, b api.Field) api.Field {
	one, other := message{fields: []api.Field{a}}, message{fields: []api.Field{b}}
	if len(one.write()) <= len(other.write()) {
		return a
	}
	return b
}

func raw(t api.Tensor) string {
	w := width(t.Type)
	b := make([]byte, 0, len(t.Data)*w)
	for _, x := range t.Data {
		for i := range w {
			b = append(b, byte(x>>(8*i)))
		}
	}
	return string(b)
}

func writeValue(v api.Value) string {
	var dims message
	for _, d := range v.Dims {
		var dim message
		dim.number(1, int64(d))
		dims.bytes(1, dim.write())
	}
	var tensorType message
	tensorType.number(1, int64(v.Type))
	tensorType.bytes(2, dims.write())
	var typ message
	typ.bytes(1, tensorType.write())
	var m message
	m.text(1, v.Name)
	m.bytes(2, typ.write())
	return m.write()
}

func fromInts(l []int) []int64 {
	numbers := make([]int64, len(l))
	for i, x := range l {
		numbers[i] = int64(x)
	}
	return numbers
}
