package pb

import (
	"strings"

	"mandrel/api"
	"mandrel/shape"
)

// What is joined is kept in parts until all fields are read: joined one by one, many parts would be copied again and again.

func readModel(s string) api.Graph {
	var graph []string
	c := open(s)
	for c.next() {
		if c.field.Num == 7 {
			graph = append(graph, c.text())
		}
	}
	stopIf(len(graph) == 0, api.ErrGraph)
	return readGraph(strings.Join(graph, ""))
}

func readGraph(s string) api.Graph {
	var g api.Graph
	c := open(s)
	for c.next() {
		switch c.field.Num {
		case 1:
			g.Nodes = append(g.Nodes, readNode(c.text()))
		case 2:
			g.Name = c.text()
		case 5:
			g.Inits = append(g.Inits, readTensor(c.text()))
		case 11:
			g.In = append(g.In, readValue(c.text()))
		case 12:
			g.Out = append(g.Out, readValue(c.text()))
		}
	}
	stopIf(tooLong(g.Name) || tooMany(g), api.ErrLimit)
	return g
}

func readNode(s string) api.Node {
	var n api.Node
	var outs []string
	domain := ""
	c := open(s)
	for c.next() {
		switch c.field.Num {
		case 1:
			n.In = append(n.In, c.text())
		case 2:
			outs = append(outs, c.text())
		case 3:
			n.Name = c.text()
		case 4:
			n.Op = c.text()
		case 5:
			n.Attrs = append(n.Attrs, readAttr(c.text()))
		case 7:
			domain = c.text()
		}
	}
	stopIf(domain != "" && domain != "ai.onnx", api.ErrUnsupported)
	stopIf(len(outs) != 1, api.ErrUnsupported)
	n.Out = outs[0]
	stopIf(tooLong(n.In...) || tooLong(n.Out, n.Name, n.Op), api.ErrLimit)
	stopIf(len(n.In) > api.MaxIn || len(n.Attrs) > api.MaxAttrs, api.ErrLimit)
	return n
}

func readAttr(s string) api.Attr {
	var all api.Attr
	var tensor []string
	c := open(s)
	for c.next() {
		switch c.field.Num {
		case 1:
			all.Name = c.text()
		case 2:
			all.F = c.float()
		case 3:
			all.I = c.number()
		case 4:
			all.S = c.text()
		case 5:
			tensor = append(tensor, c.text())
		case 8:
			all.Ints = c.numbers(all.Ints)
		case 20:
			all.Kind = toInt(c.number())
		}
	}
	if len(tensor) > 0 {
		all.T = readTensor(strings.Join(tensor, "")).T
	}
	a := ofKind(all)
	stopIf(a.Kind == api.AttrTensor && len(tensor) == 0, api.ErrGraph)
	stopIf(tooLong(a.Name, a.S) || len(a.Ints) > maxInts, api.ErrLimit)
	return a
}

// ofKind is the attribute with that alone which its Kind names: nothing else that stood there counts.
func ofKind(all api.Attr) api.Attr {
	a := api.Attr{Name: all.Name, Kind: all.Kind}
	switch all.Kind {
	case api.AttrFloat:
		a.F = all.F
	case api.AttrInt:
		a.I = all.I
	case api.AttrString:
		a.S = all.S
	case api.AttrTensor:
		a.T = all.T
	case api.AttrInts:
		a.Ints = all.Ints
	default:
		stop(api.ErrUnsupported)
	}
	return a
}

func readValue(s string) api.Value {
	var v api.Value
	var typ []string
	c := open(s)
	for c.next() {
		switch c.field.Num {
		case 1:
			v.Name = c.text()
		case 2:
			typ = append(typ, c.text())
		}
	}
	stopIf(len(typ) == 0, api.ErrUnsupported)
	v.Type, v.Dims = readType(strings.Join(typ, ""))
	stopIf(tooLong(v.Name), api.ErrLimit)
	return v
}

func readType(s string) (int, []int) {
	var tensorType []string
	c := open(s)
	for c.next() {
		if c.field.Num == 1 {
			tensorType = append(tensorType, c.text())
		}
	}
	stopIf(len(tensorType) == 0, api.ErrUnsupported)
	return readTensorType(strings.Join(tensorType, ""))
}

func readTensorType(s string) (int, []int) {
	typ := 0
	var dims []string
	c := open(s)
	for c.next() {
		switch c.field.Num {
		case 1:
			typ = toInt(c.number())
		case 2:
			dims = append(dims, c.text())
		}
	}
	stopIf(len(dims) == 0, api.ErrUnsupported)
	l := readShape(strings.Join(dims, ""))
	stopIf(!isType(typ), api.ErrUnsupported)
	_, e := shape.Count(l)
	stop(e)
	return typ, l
}

func readShape(s string) []int {
	var dims []int
	c := open(s)
	for c.next() {
		if c.field.Num == 1 {
			dims = append(dims, readDim(c.text()))
		}
	}
	return dims
}

func readDim(s string) int {
	dim := int64(0)
	numbered, named := false, false
	c := open(s)
	for c.next() {
		switch c.field.Num {
		case 1:
			dim, numbered = c.number(), true
		case 2:
			c.must(api.WireBytes)
			named = true
		}
	}
	stopIf(!numbered || named, api.ErrUnsupported)
	return toInt(dim)
}
