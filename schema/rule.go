package schema

import "mandrel/api"

// ofOne are the operators of one input that go element by element.
var ofOne = [...]string{"Identity", "Neg", "Abs", "Not", "Relu", "Sqrt", "Floor", "Exp", "Sigmoid", "Tanh"}

func isOfOne(op string) bool {
	for _, name := range ofOne {
		if name == op {
			return true
		}
	}
	return false
}

// rule is what an operator takes.
type rule struct {
	least, most int // inputs
	attrs       []attr
}

type attr struct {
	name string
	kind int
	must bool // it must be there
}

func ruleOf(op string) (rule, bool) {
	if isOfOne(op) {
		return takes(1, 1), true
	}
	switch op {
	case "Add", "Sub", "Mul", "Div", "Max", "Min", "And", "Or", "Xor", "Equal", "Less", "Greater", "MatMul":
		return takes(2, 2), true
	case "Where":
		return takes(3, 3), true
	case "Clip":
		return takes(1, 1, may("min", api.AttrFloat), may("max", api.AttrFloat)), true
	case "Cast":
		return takes(1, 1, must("to", api.AttrInt)), true
	case "ReduceSum", "ReduceMax", "ReduceMean":
		return takes(1, 1, may("axes", api.AttrInts), may("keepdims", api.AttrInt)), true
	case "ArgMax":
		return takes(1, 1, may("axis", api.AttrInt), may("keepdims", api.AttrInt)), true
	case "Reshape", "Expand":
		return takes(1, 1, must("shape", api.AttrInts)), true
	case "Transpose":
		return takes(1, 1, may("perm", api.AttrInts)), true
	case "Concat":
		return takes(1, api.MaxIn, must("axis", api.AttrInt)), true
	case "Slice":
		return takes(1, 1, must("starts", api.AttrInts), must("ends", api.AttrInts), may("axes", api.AttrInts)), true
	case "Gather":
		return takes(2, 2, may("axis", api.AttrInt)), true
	case "Pad":
		return takes(1, 1, must("pads", api.AttrInts), may("value", api.AttrFloat)), true
	case "Squeeze", "Unsqueeze":
		return takes(1, 1, must("axes", api.AttrInts)), true
	case "Flatten", "Softmax":
		return takes(1, 1, may("axis", api.AttrInt)), true
	case "Gemm":
		return takes(2, 3, may("transA", api.AttrInt), may("transB", api.AttrInt), may("alpha", api.AttrFloat), may("beta", api.AttrFloat)), true
	case "Conv":
		return takes(2, 3, may("strides", api.AttrInts), may("pads", api.AttrInts), may("dilations", api.AttrInts), may("group", api.AttrInt)), true
	case "MaxPool", "AveragePool":
		return takes(1, 1, must("kernel_shape", api.AttrInts), may("strides", api.AttrInts), may("pads", api.AttrInts)), true
	case "GlobalAveragePool":
		return takes(1, 1), true
	case "BatchNormalization":
		return takes(5, 5, may("epsilon", api.AttrFloat)), true
	case "Constant":
		return takes(0, 0, must("value", api.AttrTensor)), true
	}
	return rule{}, false
}

// takes makes a rule; each operator may have then beside its own attributes.
func takes(least, most int, attrs ...attr) rule {
	return rule{least: least, most: most, attrs: append(attrs, may("then", api.AttrString))}
}

func may(name string, kind int) attr { return attr{name: name, kind: kind} }

func must(name string, kind int) attr { return attr{name: name, kind: kind, must: true} }
