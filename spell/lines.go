package spell

import (
	"slices"
	"strconv"
	"strings"

	"mandrel/api"
)

// Do is what a layer does with a node.
type Do = func(api.Node, []api.Tensor) (api.Tensor, api.Errno)

// Op is a node with that many inputs, of a text such as `Softmax; axis=1`.
func Op(text string, inputs int) api.Node {
	op, attrs, _ := strings.Cut(text, ";")
	in := strings.Join(slices.Repeat([]string{"x"}, inputs), ",")
	return Node("z = " + strings.TrimSpace(op) + "(" + in + ");" + attrs)
}

// Tensors are those of a text such as `f 2: 1.5 nan, l: 4`.
func Tensors(text string) []api.Tensor {
	var l []api.Tensor
	for _, piece := range pieces(text, ",") {
		l = append(l, Tensor(piece))
	}
	return l
}

// Word is what stands for an error in a test's lines.
func Word(e api.Errno) string {
	switch e {
	case api.OK:
		return ""
	case api.ErrArg:
		return "arg"
	case api.ErrGraph:
		return "graph"
	case api.ErrUnsupported:
		return "unsupported"
	case api.ErrLimit:
		return "limit"
	case api.ErrDivide:
		return "divide"
	case api.ErrIndex:
		return "index"
	}
	return "error " + strconv.Itoa(int(e))
}

// Unlike holds what a layer does against lines such as `Add | i 2: 1 2, i: 3 | i 2: 4 5`: a node, its inputs, and what comes out, or the word of the error. It tells of those that are not met.
func Unlike(do Do, lines string) []string {
	var l []string
	for _, line := range pieces(lines, "\n") {
		part := strings.Split(line, "|")
		if len(part) != 3 {
			panic(line)
		}
		in, want := Tensors(part[1]), strings.TrimSpace(part[2])
		got, e := do(Op(part[0], len(in)), in)
		if !isSpelt(got, e, want) {
			l = append(l, line+", not "+tell(got)+" "+Word(e))
		}
	}
	return l
}

func isSpelt(t api.Tensor, e api.Errno, want string) bool {
	if !strings.Contains(want, ":") {
		return Word(e) == want && e != api.OK && t.Type == 0 && len(t.Dims) == 0 && len(t.Data) == 0
	}
	w := Tensor(want)
	return e == api.OK && t.Type == w.Type && slices.Equal(t.Dims, w.Dims) && slices.Equal(t.Data, w.Data)
}

// tell is a tensor as plain numbers.
func tell(t api.Tensor) string {
	text := strconv.Itoa(t.Type)
	for _, d := range t.Dims {
		text += " " + strconv.Itoa(d)
	}
	text += ":"
	for _, x := range t.Data {
		text += " " + strconv.FormatInt(x, 10)
	}
	return text
}
