// Package spell makes tensors, values, nodes and graphs of short texts, for tests. It panics at a text that it can't read, since then the test is wrong.
package spell

import (
	"math"
	"strconv"
	"strings"

	"mandrel/api"
)

// Graph is a graph of lines, each `in x f 2 3`, `init w i 2: 1 2`, `out z f 2 3` or a node's.
func Graph(text string) api.Graph {
	var g api.Graph
	for _, line := range pieces(text, "\n") {
		kind, rest, _ := strings.Cut(line, " ")
		switch kind {
		case "in":
			g.In = append(g.In, Value(rest))
		case "out":
			g.Out = append(g.Out, Value(rest))
		case "init":
			name, tensor, _ := strings.Cut(rest, " ")
			g.Inits = append(g.Inits, api.Named{Name: name, T: Tensor(tensor)})
		default:
			g.Nodes = append(g.Nodes, Node(line))
		}
	}
	return g
}

// Node is a node of a text such as `z = Conv(x, w); group=2; pads=1 1 1 1; then=Relu,Neg`.
func Node(text string) api.Node {
	parts := pieces(text, ";")
	out, rest, _ := strings.Cut(parts[0], "=")
	op, in, ok := strings.Cut(strings.TrimSuffix(rest, ")"), "(")
	if !ok {
		panic(text)
	}
	n := api.Node{Op: strings.TrimSpace(op), In: pieces(in, ","), Out: strings.TrimSpace(out)}
	for _, part := range parts[1:] {
		n.Attrs = append(n.Attrs, attr(n.Op, part))
	}
	return n
}

// Value is a value of a text such as `x f 2 3`.
func Value(text string) api.Value {
	name, rest, _ := strings.Cut(text, " ")
	typ, dims := typeAndDims(rest)
	return api.Value{Name: name, Type: typ, Dims: dims}
}

// Tensor is a tensor of a text such as `f 2: 1.5 nan`; its types are f, i, l and b.
func Tensor(text string) api.Tensor {
	head, elements, _ := strings.Cut(text, ":")
	typ, dims := typeAndDims(head)
	t := api.Tensor{Type: typ, Dims: dims}
	for _, word := range strings.Fields(elements) {
		if typ == api.Float {
			t.Data = append(t.Data, Bits(word))
		} else {
			t.Data = append(t.Data, number(word))
		}
	}
	return t
}

// Bits are those of a Float, such as `-1.5`, `inf` or `nan`.
func Bits(word string) int64 {
	f, err := strconv.ParseFloat(word, 32)
	if err != nil {
		panic(word)
	}
	if math.IsNaN(f) {
		return api.NaN
	}
	return int64(math.Float32bits(float32(f)))
}

func typeAndDims(text string) (int, []int) {
	words := strings.Fields(text)
	if len(words) == 0 {
		panic(text)
	}
	var dims []int
	for _, word := range words[1:] {
		dims = append(dims, int(number(word)))
	}
	switch words[0] {
	case "f":
		return api.Float, dims
	case "i":
		return api.Int32, dims
	case "l":
		return api.Int64, dims
	case "b":
		return api.Bool, dims
	}
	return int(number(words[0])), dims
}

// attr has the kind that its name has in the document's table of operators.
func attr(op, text string) api.Attr {
	name, rest, _ := strings.Cut(text, "=")
	a := api.Attr{Name: name}
	switch name {
	case "then":
		a.Kind, a.S = api.AttrString, rest
	case "to", "axis", "keepdims", "transA", "transB", "group":
		a.Kind, a.I = api.AttrInt, number(rest)
	case "min", "max", "alpha", "beta", "epsilon":
		a.Kind, a.F = api.AttrFloat, Bits(rest)
	case "value":
		if op == "Constant" {
			a.Kind, a.T = api.AttrTensor, Tensor(rest)
		} else {
			a.Kind, a.F = api.AttrFloat, Bits(rest)
		}
	default:
		a.Kind = api.AttrInts
		for _, word := range strings.Fields(rest) {
			a.Ints = append(a.Ints, number(word))
		}
	}
	return a
}

func number(word string) int64 {
	x, err := strconv.ParseInt(word, 10, 64)
	if err != nil {
		panic(word)
	}
	return x
}

// pieces are what stands between separators, without blanks; empty ones are left out.
func pieces(text, separator string) []string {
	var l []string
	for _, piece := range strings.Split(text, separator) {
		if piece = strings.TrimSpace(piece); piece != "" {
			l = append(l, piece)
		}
	}
	return l
}
