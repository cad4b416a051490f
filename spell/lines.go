package spell

import (
	"slices"
	"strconv"
	"strings"

	"mandrel/api"
)

// Do is what a layer does with a node.
type Do = func(api.Node, []api.Tensor) (api.Tensor, api.Errno)

// Op is a node with that many inputs, of a text such as `Softmax; axis=1`.
func Op(text string, inputs int) api.Node {
	op, attrs, _ := strings.Cut(text, ";")
	in := strings.Join(slices.Repeat([]string{"x"}, inputs), ",")
	return Node("z = " + strings.TrimSpace(op) + "(" + in + ");" + attrs)
}

// Tensors are those of a text such as `f 2: 1.5 nan, l: 4`.
func Tensors(text string) []api.Tensor {
	var l []api.Tensor
	for _, piece := range pieces(text, ",") {
		l = append(l, Tensor(piece))
	}
	return l
}

// Word is what stands for an error in a test's lines.
func Word(e api.Errno) string {
	switch e {
	case api.OK:
		return ""
	case api.ErrArg:
		return "arg"
	case api.ErrGraph:
		return "graph"
	case api.ErrUnsupported:
		return "unsupported"
	case api.ErrLimit:
		return "limit"
	case api.ErrDivide:
		return "divide"
	case api.ErrIndex:
		return "index"
	}
	return "error " + strconv.Itoa(int(e))
}

// wellFormed has a node of each operator, and inputs such as it has.
const wellFormed = `
Identity | f: 1
Neg | i: 1
Abs | l: 1
Not | b: 1
Relu | f: 1
Sqrt | f: 1
Floor | f: 1
Exp | f: 1
Sigmoid | f: 1
Tanh | f: 1
Add | i: 1, i: 1
Sub | i: 1, i: 1
Mul | i: 1, i: 1
Div | i: 1, i: 0
Max | i: 1, i: 1
Min | i: 1, i: 1
And | b: 1, b: 1
Or | b: 1, b: 1
Xor | b: 1, b: 1
Equal | i: 1, i: 1
Less | i: 1, i: 1
Greater | i: 1, i: 1
Where | b: 1, i: 1, i: 0
Clip | f: 1
Cast; to=1 | f: 1
ReduceSum | f 2: 1 2
ReduceMax | i 2: 1 2
ReduceMean | f 2: 1 2
ArgMax | f 2: 1 2
Reshape; shape=1 2 | f 2: 1 2
Expand; shape=2 | f: 1
Transpose | f 2: 1 2
Concat; axis=0 | f 2: 1 2
Concat; axis=0 | b 1: 1, b 1: 1, b 1: 1
Slice; starts=0; ends=1 | f 2: 1 2
Gather | i 1: 1, i 1: 5
Pad; pads=0 0 | f 1: 1
Squeeze; axes=0 | f 1: 1
Unsqueeze; axes=0 | f 1: 1
Flatten | f 1: 1
Softmax | f 2: 1 2
MatMul | f 1 1: 1, f 1 1: 1
Gemm | f 1 1: 1, f 1 1: 1
Gemm | f 1 1: 1, f 1 1: 1, f: 1
Conv | f 1 1 1 1: 1, f 1 1 1 1: 1
Conv | f 1 1 1 1: 1, f 1 1 1 1: 1, f 1: 1
MaxPool; kernel_shape=1 1 | f 1 1 1 1: 1
AveragePool; kernel_shape=1 1 | f 1 1 1 1: 1
GlobalAveragePool | f 1 1 1 1: 1
BatchNormalization | f 1 1: 1, f 1: 1, f 1: 1, f 1: 1, f 1: 1
Constant; value=i: 1 |
`

// Others are lines for Unlike: of each operator but a layer's own, which has none of them.
func Others(own string) string {
	var lines []string
	for _, line := range pieces(wellFormed, "\n") {
		op, _, _ := strings.Cut(line, " ")
		if !slices.Contains(strings.Fields(own), strings.TrimSuffix(op, ";")) {
			lines = append(lines, line+" | unsupported")
		}
	}
	return strings.Join(lines, "\n")
}

// Unlike holds what a layer does against lines such as `Add | i 2: 1 2, i: 3 | i 2: 4 5`: a node, its inputs, and what comes out, or the word of the error. It tells of those that are not met.
func Unlike(do Do, lines string) []string {
	var l []string
	for _, line := range pieces(lines, "\n") {
		part := strings.Split(line, "|")
		if len(part) != 3 {
			panic(line)
		}
		in, want := Tensors(part[1]), strings.TrimSpace(part[2])
		got, e := do(Op(part[0], len(in)), in)
		if !isSpelt(got, e, want) {
			l = append(l, line+", not "+tell(got)+" "+Word(e))
		}
	}
	return l
}

func isSpelt(t api.Tensor, e api.Errno, want string) bool {
	if !strings.Contains(want, ":") {
		return Word(e) == want && e != api.OK && t.Type == 0 && len(t.Dims) == 0 && len(t.Data) == 0
	}
	w := Tensor(want)
	return e == api.OK && t.Type == w.Type && slices.Equal(t.Dims, w.Dims) && slices.Equal(t.Data, w.Data)
}

// tell is a tensor as plain numbers.
func tell(t api.Tensor) string {
	text := strconv.Itoa(t.Type)
	for _, d := range t.Dims {
		text += " " + strconv.Itoa(d)
	}
	text += ":"
	for _, x := range t.Data {
		text += " " + strconv.FormatInt(x, 10)
	}
	return text
}
