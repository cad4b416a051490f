package sem

import (
	"strings"

	"mandrel/api"
	"mandrel/begin"
	"mandrel/conv"
	"mandrel/elem"
	"mandrel/linear"
	"mandrel/move"
	"mandrel/reduce"
	"mandrel/schema"
	"mandrel/step"
)

// layers are the layers' Do, by the names of their operators.
type layers map[string]layer

type layer func(api.Node, []api.Tensor) (api.Tensor, api.Errno)

func layersByOperator() layers {
	l := layers{}
	l.add(elem.Do, "Identity Neg Abs Not Relu Sqrt Floor Exp Sigmoid Tanh")
	l.add(elem.Do, "Add Sub Mul Div Max Min And Or Xor Equal Less Greater Where Clip Cast")
	l.add(move.Do, "Reshape Expand Transpose Concat Slice Gather Pad Squeeze Unsqueeze Flatten Constant")
	l.add(reduce.Do, "ReduceSum ReduceMax ReduceMean ArgMax Softmax BatchNormalization")
	l.add(linear.Do, "MatMul Gemm")
	l.add(conv.Do, "Conv MaxPool AveragePool GlobalAveragePool")
	return l
}

func (l layers) add(do layer, operators string) {
	for _, op := range strings.Fields(operators) {
		l[op] = do
	}
}

// do does a node by the layer whose operator it has, and then what follows in it.
func (l layers) do(n api.Node, in []api.Tensor) (api.Tensor, api.Errno) {
	do, ok := l[n.Op]
	if !ok {
		// Of an operator that there is not, no node begins well.
		_, e := begin.Node(n, in)
		return api.Tensor{}, e
	}
	t, e := do(n, in)
	if e != api.OK {
		return api.Tensor{}, e
	}
	follow(n, t)
	return t, api.OK
}

// follow changes what a layer made in place: nobody else has it yet. The layer has seen that all operators are for the type.
func follow(n api.Node, t api.Tensor) {
	ops, _ := schema.Then(n)
	for _, op := range ops {
		next := step.One(op, t.Type)
		for i, x := range t.Data {
			t.Data[i] = next(x)
		}
	}
}
