package infer

import (
	"mandrel/api"
	"mandrel/attr"
	"mandrel/num"
	"mandrel/schema"
)

// typeMade is the type of what a node makes.
func typeMade(n api.Node, in []api.Value) int {
	switch n.Op {
	case "Constant":
		return attr.Value(n).Type
	case "Cast":
		to := whole(schema.Int(n, "to", 0))
		stopUnlessType(to)
		return to
	case "Where":
		must(in[0].Type == api.Bool)
		return sameType(in[1:])
	case "Concat", "Reshape", "Expand", "Transpose", "Slice", "Squeeze", "Unsqueeze", "Flatten":
		return sameType(in)
	case "Gather":
		must(in[1].Type == api.Int32 || in[1].Type == api.Int64)
		return in[0].Type
	case "ReduceSum", "ReduceMax":
		must(in[0].Type != api.Bool)
		return in[0].Type
	case "ArgMax":
		must(in[0].Type != api.Bool)
		return api.Int64
	case "Clip", "Softmax", "ReduceMean", "Pad", "MatMul", "Gemm", "Conv", "MaxPool", "AveragePool", "GlobalAveragePool", "BatchNormalization":
		must(sameType(in) == api.Float)
		return api.Float
	case "Equal", "Less", "Greater":
		mustBeOfTwo(n.Op, sameType(in))
		return api.Bool
	}
	typ := sameType(in)
	if len(in) == 2 {
		mustBeOfTwo(n.Op, typ)
	} else {
		mustBeOfOne(n.Op, typ)
	}
	return typ
}

func sameType(in []api.Value) int {
	for _, v := range in {
		must(v.Type == in[0].Type)
	}
	return in[0].Type
}

// mustBeOfOne and mustBeOfTwo ask num of an element that each type has, and that may be divided by.
func mustBeOfOne(op string, typ int) {
	_, e := num.Unary(op, typ, 1)
	must(e == api.OK)
}

func mustBeOfTwo(op string, typ int) {
	_, e := num.Binary(op, typ, 1, 1)
	must(e == api.OK)
}

// whole is a number of 64 bits as an int, which may have fewer: what is far beyond all bounds stays beyond them.
func whole(x int64) int {
	const far = 1 << 30
	return int(min(max(x, -far), far))
}
