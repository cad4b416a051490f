package infer

import (
	"slices"

	"mandrel/api"
	"mandrel/attr"
	"mandrel/schema"
)

// dimsMade are the dims of what a node makes, of inputs of types that it has.
func dimsMade(n api.Node, in []api.Value) []int {
	if n.Op == "Constant" {
		return attr.Value(n).Dims
	}
	x := in[0].Dims
	switch n.Op {
	case "Where":
		return spread(spread(x, in[1].Dims), in[2].Dims)
	case "Softmax":
		axesOf(attr.Along(n, len(x)), len(x))
		return x
	case "ReduceSum", "ReduceMax", "ReduceMean", "ArgMax":
		return reduced(n, x)
	case "Reshape":
		return reshaped(x, schema.Ints(n, "shape", nil))
	case "Expand":
		return spread(x, wholes(schema.Ints(n, "shape", nil)))
	case "Transpose":
		return transposed(n, x)
	case "Concat":
		return joined(n, in)
	case "Slice":
		return sliced(n, x)
	case "Gather":
		axis := axisOf(schema.Int(n, "axis", 0), len(x))
		return slices.Concat(x[:axis], in[1].Dims, x[axis+1:])
	case "Pad":
		return padded(x, schema.Ints(n, "pads", nil))
	case "Squeeze":
		return squeezed(x, schema.Ints(n, "axes", nil))
	case "Unsqueeze":
		return unsqueezed(x, schema.Ints(n, "axes", nil))
	case "Flatten":
		return flattened(n, x)
	case "MatMul":
		return product(x, in[1].Dims)
	case "Gemm":
		return gemm(n, in)
	case "Conv":
		return convolved(n, in)
	case "MaxPool", "AveragePool":
		return pooled(n, x)
	case "GlobalAveragePool":
		must(len(x) == 4)
		return []int{x[0], x[1], 1, 1}
	case "BatchNormalization":
		return normalized(in)
	}
	if len(in) == 2 {
		return spread(x, in[1].Dims)
	}
	return x
}

func wholes(l []int64) []int {
	var dims []int
	for _, d := range l {
		dims = append(dims, whole(d))
	}
	return dims
}

// product is that of matrices. The rule that has but ErrGraph stands ahead of the one that may have ErrLimit: ErrGraph is the answer where neither holds.
func product(x, y []int) []int {
	must(len(x) >= 2 && len(y) >= 2)
	a, b := len(x)-2, len(y)-2
	must(x[a+1] == y[b])
	return append(spread(x[:a], y[:b]), x[a], y[b+1])
}

func gemm(n api.Node, in []api.Value) []int {
	x := turned(in[0].Dims, schema.Int(n, "transA", 0))
	y := turned(in[1].Dims, schema.Int(n, "transB", 0))
	dims := product(x, y)
	if len(in) == 3 {
		must(slices.Equal(spread(dims, in[2].Dims), dims))
	}
	return dims
}

// turned is a matrix whose rows are columns, if it is to be turned.
func turned(dims []int, turn int64) []int {
	must(len(dims) == 2)
	if isOn(turn) {
		return []int{dims[1], dims[0]}
	}
	return dims
}

// isOn tells whether an attribute that is 0 or 1 is 1.
func isOn(x int64) bool {
	must(x == 0 || x == 1)
	return x == 1
}

func normalized(in []api.Value) []int {
	x := in[0].Dims
	must(len(x) >= 2)
	for _, v := range in[1:] {
		must(slices.Equal(v.Dims, x[1:2]))
	}
	return x
}
