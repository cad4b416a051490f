package sem

import (
	"math/rand"
	"strings"
	"testing"

	"mandrel/api"
	"mandrel/conv"
	"mandrel/elem"
	"mandrel/linear"
	"mandrel/move"
	"mandrel/num"
	"mandrel/reduce"
	"mandrel/sample"
	"mandrel/schema"
	"mandrel/spell"
)

func expectLines(t *testing.T, lines string) {
	t.Helper()
	for _, line := range spell.Unlike(Do, lines) {
		t.Errorf("P14.1: %s", line)
	}
}

// byHand is a node's layer, as the chapters have it, then what follows, one element after the other.
func byHand(n api.Node, in []api.Tensor) (api.Tensor, api.Errno) {
	do := elem.Do
	switch n.Op {
	case "Reshape", "Expand", "Transpose", "Concat", "Slice", "Gather", "Pad", "Squeeze", "Unsqueeze", "Flatten", "Constant":
		do = move.Do
	case "ReduceSum", "ReduceMax", "ReduceMean", "ArgMax", "Softmax", "BatchNormalization":
		do = reduce.Do
	case "MatMul", "Gemm":
		do = linear.Do
	case "Conv", "MaxPool", "AveragePool", "GlobalAveragePool":
		do = conv.Do
	}
	t, e := do(n, in)
	if e != api.OK {
		return api.Tensor{}, e
	}
	for i := range t.Data {
		ops, _ := schema.Then(n)
		for _, op := range ops {
			x, f := num.Unary(op, t.Type, t.Data[i])
			if f != api.OK {
				return api.Tensor{}, f
			}
			t.Data[i] = x
		}
	}
	return t, api.OK
}

func TestEachOperator(t *testing.T) {
	done := 0
	for _, line := range strings.Split(spell.Others(""), "\n") {
		part := strings.Split(line, "|")
		in := spell.Tensors(part[1])
		for _, then := range []string{"", ";then=Identity", ";then=Neg", ";then=Neg,Abs,Identity", ";then=Not", ";then=Exp,Neg", ";then=", ";then=Add"} {
			n := spell.Op(part[0]+then, len(in))
			got, e := Do(n, in)
			want, f := byHand(n, in)
			if e != f || !spell.Same(got, want) {
				t.Errorf("P14.1: %s%s: %v, %d, not %v, %d", part[0], then, got, e, want, f)
			}
			if e == api.OK {
				done++
			}
		}
	}
	if done < 100 {
		t.Errorf("only %d were done", done)
	}
}

func TestThen(t *testing.T) {
	expectLines(t, `
Add; then=Neg | i 2: 1 2, i: 3 | i 2: -4 -5
Sub; then=Abs,Neg | i 2: 1 2, i: 2 | i 2: -1 0
Neg; then=Neg | l: -9223372036854775808 | l: -9223372036854775808
Identity; then=Relu,Neg | f 2: 3 -3 | f 2: -3 -0
Identity; then=Neg,Relu | f 2: 3 -3 | f 2: 0 3
Identity; then=Neg,Sqrt | f 2: -4 4 | f 2: 2 nan
Identity; then=Sqrt,Neg | f 2: -4 4 | f 2: nan -2
Identity; then=Floor,Neg,Floor | f: 1.5 | f: -1
Identity; then=Neg,Floor,Neg | f: 1.5 | f: 2
Less; then=Not | i 2: 1 2, i: 2 | b 2: 0 1
Less; then=Not,Not,Not | i 2: 1 2, i: 2 | b 2: 0 1
Where; then=Abs | b 2: 1 0, f: -1, f: -2 | f 2: 1 2
Clip; min=0; then=Neg | f 2: -1 1 | f 2: -0 -1
Cast; to=9; then=Not | f 2: 0 3 | b 2: 1 0
Cast; to=6; then=Neg | f: 2.5 | i: -2
ReduceSum; then=Neg | f 2: 1 2 | f 1: -3
ReduceMax; then=Neg | i 2: 1 2 | i 1: -2
ArgMax; then=Neg | f 2: 1 2 | l 1: -1
Softmax; then=Neg | f 2: 0 0 | f 2: -0.5 -0.5
BatchNormalization; epsilon=0; then=Neg | f 1 1: 3, f 1: 1, f 1: 2, f 1: 0, f 1: 1 | f 1 1: -5
Reshape; shape=1 2; then=Sqrt | f 2: 4 9 | f 1 2: 2 3
Transpose; then=Neg,Abs | i 1 2: 4 -9 | i 2 1: 4 9
Concat; axis=0; then=Neg | i 1: 4, i 1: -9 | i 2: -4 9
Slice; starts=1; ends=2; then=Neg | i 2: 4 9 | i 1: -9
Gather; then=Neg | i 2: 4 9, i: 1 | i: -9
Pad; pads=1 0; value=-4; then=Abs,Sqrt | f 1: 9 | f 2: 2 3
Constant; value=i 2: 1 -2; then=Neg | | i 2: -1 2
Constant; then=Neg,Abs; value=i 2: 1 -2 | | i 2: 1 2
Constant; value=b: 1; then=Not | | b: 0
MatMul; then=Relu | f 1 1: -2, f 1 2: 3 -3 | f 1 2: 0 6
Gemm; then=Neg,Relu; alpha=2 | f 1 1: -2, f 1 1: 3, f: 2 | f 1 1: 10
Conv; then=Relu | f 1 1 1 2: 1 -1, f 1 1 1 1: 2, f 1: 1 | f 1 1 1 2: 3 0
MaxPool; kernel_shape=1 2; then=Neg | f 1 1 1 2: 1 2 | f 1 1 1 1: -2
AveragePool; kernel_shape=1 2; then=Neg | f 1 1 1 2: 1 2 | f 1 1 1 1: -1.5
GlobalAveragePool; then=Exp | f 1 1 1 2: -1 1 | f 1 1 1 1: 1
Div; then=Neg | i 2: 6 6, i: 2 | i 2: -3 -3
`)
}

func TestErrorsOfANode(t *testing.T) {
	expectLines(t, `
Div | i 2: 1 2, i 2: 1 0 | divide
Div; then=Neg,Abs | l: 1, l: 0 | divide
Gather | i 2: 1 2, i: 2 | index
Gather; then=Identity | i 2: 1 2, l: -3 | index
Add | i: 1, l: 1 | graph
Add | i: 1 | graph
Neg | b: 1 | graph
MatMul | f 1 2: 1 2, f 1 2: 1 2 | graph
Conv | f 1 2 1 1: 1 2, f 1 1 1 1: 1 | graph
ReduceSum; axes=1 | f 1: 1 | graph
Cast; to=2 | i: 1 | unsupported
Neg; axis=1 | i: 1 | unsupported
Reshape; shape=1 1 1 1 1 1 1 | i: 1 | limit
Less; then=Neg | i: 1, i: 2 | graph
Add; then=Not | i: 1, i: 2 | graph
Add; then=Neg, | i: 1, i: 2 | graph
Add; then=Add | i: 1, i: 2 | graph
Add; then=What | i: 1, i: 2 | graph
Not; then=Relu | b: 1 | graph
What | i: 1 | unsupported
What | | unsupported
What; then=Neg | i: 1 | unsupported
neg | i: 1 | unsupported
LeakyRelu | f: 1 | unsupported
Neg | i 2: 1 | arg
Neg | 2: 1 | arg
Constant; value=i 2: 1 | | graph
`)
}

// R2: a tensor that may not be, then infer's error, then that of a place.
func TestTheFirstErrorOfANode(t *testing.T) {
	expectLines(t, `
What | i: 1, b: 2 | arg
What | i 65537: 1 | arg
Add; then=Not | i: 1, b: 2 | arg
Neg; axis=1 | i: 1 2 | arg
Div; then=Not | i: 1, i: 0 | graph
Gather; then=Not | i 1: 1, i: 1 | graph
Gather; axis=1 | i 1: 1, i: 1 | graph
Div; axis=1 | i: 1, i: 0 | unsupported
`)
	// An operator without a name, and one that is there with too few names of inputs.
	for n, want := range map[string]api.Errno{"z = ()": api.ErrUnsupported, "z = Neg()": api.ErrGraph, "= Neg(x)": api.ErrUnsupported} {
		if got, e := Do(spell.Node(n), spell.Tensors("i: 1")); e != want || !spell.Same(got, api.Tensor{}) {
			t.Errorf("P14.1: %s: %v, %d", n, got, e)
		}
	}
}

// Nodes of all kinds, of which the inputs are known, are done as their layers do them.
func TestNodesOfSamples(t *testing.T) {
	r := rand.New(rand.NewSource(14))
	for range 2000 {
		g := sample.Graph(r.Intn, 6, sample.All)
		v := map[string]api.Tensor{}
		for i, x := range sample.Inputs(r.Intn, g) {
			v[g.In[i].Name] = x
		}
		for _, w := range g.Inits {
			v[w.Name] = w.T
		}
		for _, n := range g.Nodes {
			var in []api.Tensor
			for _, name := range n.In {
				in = append(in, v[name])
			}
			got, e := Do(n, in)
			want, f := byHand(n, in)
			if e != f || !spell.Same(got, want) {
				t.Fatalf("P14.1: %v of %v: %v, %d, not %v, %d", n, in, got, e, want, f)
			}
		}
	}
}
