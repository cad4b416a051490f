package infer

import (
	"slices"
	"strings"
	"testing"

	"mandrel/api"
	"mandrel/spell"
)

// valuesOf are values of a text such as `f 2 3, l 4`.
func valuesOf(text string) []api.Value {
	var l []api.Value
	if strings.TrimSpace(text) == "" {
		return nil
	}
	for _, part := range strings.Split(text, ",") {
		l = append(l, spell.Value("a "+strings.TrimSpace(part)))
	}
	return l
}

// expectLines holds Out against lines of a node, what it is given, and what comes out or the error.
func expectLines(t *testing.T, lines string) {
	t.Helper()
	for _, line := range strings.Split(strings.TrimSpace(lines), "\n") {
		part := strings.Split(line, "|")
		if len(part) != 3 {
			t.Fatalf("%s: not three parts", line)
		}
		in, want := valuesOf(part[1]), strings.TrimSpace(part[2])
		v, e := Out(spell.Op(part[0], len(in)), in)
		if e != api.OK {
			if spell.Word(e) != want || v.Name != "" || v.Type != 0 || len(v.Dims) != 0 {
				t.Errorf("P8.1: %s: %v, %d", strings.TrimSpace(line), v, e)
			}
			continue
		}
		if spell.Word(api.ErrGraph) == want || spell.Word(api.ErrLimit) == want || spell.Word(api.ErrUnsupported) == want {
			t.Errorf("P8.1: %s: %v without an error", strings.TrimSpace(line), v)
			continue
		}
		if w := spell.Value("z " + want); v.Name != "z" || v.Type != w.Type || !slices.Equal(v.Dims, w.Dims) {
			t.Errorf("P8.1: %s: %v", strings.TrimSpace(line), v)
		}
	}
}

func TestExamples(t *testing.T) {
	expectLines(t, `
MatMul | f 5 2 3, f 3 4 | f 5 2 4
Conv; group=2; pads=1 1 1 1; strides=2 2 | f 1 4 5 5, f 6 2 3 3 | f 1 6 3 3
Reshape; shape=0 -1 3 | f 2 6 | f 2 2 3
Slice; starts=-3; ends=100 | f 5 | f 3
`)
}

func TestElementByElement(t *testing.T) {
	expectLines(t, `
Neg | f 2 3 | f 2 3
Identity | b | b
Exp | f 1 1 1 1 1 1 | f 1 1 1 1 1 1
Add | f 2 1 3, f 4 1 | f 2 4 3
Add | f, f | f
Mul | i 2, i | i 2
Div | l 1, l 3 | l 3
And | b 2 1, b 1 2 | b 2 2
Equal | b 2 1, b 1 2 | b 2 2
Less | f 2, f 2 | b 2
Greater | l 2, l 1 2 | b 1 2
Add | f 2, f 3 | graph
Add | f 2 3, f 3 2 | graph
Add | f 256 1, f 257 | limit
Less | f 256 1, f 257 | limit
Add | f 256 1, f 256 | f 256 256
Where | b 2 1, f 3, f | f 2 3
Where | b, b, b | b
Where | b 2, l 3 1, l 4 1 1 | l 4 3 2
Where | b 2, f 3, f 1 | graph
Where | b 2, f 2, f 3 | graph
Where | b 1, f 2, f 3 | graph
Where | b 256 1, f 257, f 1 | limit
Where | b 256 1, f 256, f 2 1 1 | limit
Where | b 256 1, f 257, f 3 | limit
Clip | f 2 3 | f 2 3
Clip; min=1; max=0 | f | f
Cast; to=1 | b 2 | f 2
Cast; to=6 | f 2 3 | i 2 3
Cast; to=7 | i | l
Cast; to=9 | l 2 | b 2
Cast; to=9 | b 2 | b 2
Cast; to=0 | b 2 | unsupported
Cast; to=2 | b 2 | unsupported
Cast; to=10 | b 2 | unsupported
Cast; to=-1 | b 2 | unsupported
Cast; to=4294967297 | b 2 | unsupported
Cast; to=-9223372036854775808 | b 2 | unsupported
Cast; to=9223372036854775807 | b 2 | unsupported
`)
}

func TestSoftmaxAndReductions(t *testing.T) {
	expectLines(t, `
Softmax | f 2 3 | f 2 3
Softmax; axis=0 | f 2 3 | f 2 3
Softmax; axis=1 | f 2 3 | f 2 3
Softmax; axis=2 | f 2 3 | graph
Softmax; axis=-2 | f 2 3 | f 2 3
Softmax; axis=-3 | f 2 3 | graph
Softmax; axis=9223372036854775807 | f 2 | graph
Softmax; axis=-9223372036854775808 | f 2 | graph
Softmax | f | graph
Softmax; axis=0 | f | graph
ReduceSum | f 2 3 | f 1 1
ReduceSum | f | f
ReduceSum; keepdims=0 | f 2 3 | f
ReduceSum; keepdims=1 | f 2 3 | f 1 1
ReduceSum; axes=1 | f 2 3 | f 2 1
ReduceSum; axes=0; keepdims=0 | i 2 3 | i 3
ReduceSum; axes= | l 2 3 | l 2 3
ReduceSum; axes=; keepdims=0 | l 2 3 | l 2 3
ReduceMax; axes=2 0; keepdims=0 | l 2 3 4 | l 3
ReduceMax; axes=-1 | f 2 3 4 | f 2 3 1
ReduceMean; axes=-3 1 | f 2 3 4 | f 1 1 4
ReduceMean; axes=-4 | f 2 3 4 | graph
ReduceSum; axes=3 | f 2 3 4 | graph
ReduceSum; axes=1 1 | f 2 3 4 | graph
ReduceSum; axes=1 -2 | f 2 3 4 | graph
ReduceSum; axes=0 1 2 0 | f 2 3 4 | graph
ReduceSum; axes=0 | f | graph
ReduceSum; keepdims=2 | f 2 | graph
ReduceSum; keepdims=-1 | f 2 | graph
ReduceMean; keepdims=4294967297 | f 2 | graph
ArgMax | f 2 3 | l 1 3
ArgMax; axis=1 | i 2 3 | l 2 1
ArgMax; axis=-1; keepdims=0 | l 2 3 | l 2
ArgMax; keepdims=0 | l 2 | l
ArgMax; axis=2 | f 2 3 | graph
ArgMax; axis=-3 | f 2 3 | graph
ArgMax; keepdims=2 | f 2 3 | graph
ArgMax | f | graph
`)
}

func TestReshapeAndExpand(t *testing.T) {
	expectLines(t, `
Reshape; shape=6 | f 2 3 | f 6
Reshape; shape=-1 | f 2 3 | f 6
Reshape; shape=-1 | b | b 1
Reshape; shape= | f 1 1 | f
Reshape; shape= | f | f
Reshape; shape= | f 2 | graph
Reshape; shape=0 0 | i 2 3 | i 2 3
Reshape; shape=3 0 | i 2 2 | graph
Reshape; shape=0 | i 2 3 | graph
Reshape; shape=1 0 2 | i 2 3 | i 1 3 2
Reshape; shape=2 3 0 | i 2 3 | graph
Reshape; shape=0 -1 | i 2 3 4 | i 2 12
Reshape; shape=-1 0 | i 2 3 4 | i 8 3
Reshape; shape=-1 0 0 0 | i 2 3 4 1 | i 2 3 4 1
Reshape; shape=0 0 -1 | i 2 3 | i 2 3 1
Reshape; shape=-1 0 0 | i 2 3 | graph
Reshape; shape=-1 0 0 | i 2 3 5 | i 2 3 5
Reshape; shape=4 -1 | f 2 3 | graph
Reshape; shape=7 -1 | f 2 3 | graph
Reshape; shape=-1 -1 | f 2 3 | graph
Reshape; shape=-1 6 -1 | f 2 3 | graph
Reshape; shape=-2 -3 | f 2 3 | graph
Reshape; shape=-2 | f 2 | graph
Reshape; shape=5 | f 2 3 | graph
Reshape; shape=12 | f 2 3 | graph
Reshape; shape=65536 2 | f 65536 | graph
Reshape; shape=4294967296 4294967296 | f 1 | graph
Reshape; shape=4294967296 4294967296 -1 | f 1 | graph
Reshape; shape=9223372036854775807 2 | f 2 | graph
Reshape; shape=4 4611686018427387905 | f 4 | graph
Reshape; shape=65536 65536 65536 65536 | f 65536 | graph
Reshape; shape=65536 65536 65536 65536 -1 | f 65536 | graph
Reshape; shape=-9223372036854775808 | f 2 | graph
Reshape; shape=1 1 1 1 1 6 | f 2 3 | f 1 1 1 1 1 6
Reshape; shape=1 1 1 1 1 1 6 | f 2 3 | limit
Reshape; shape=1 1 1 1 1 1 -1 | f 2 3 | limit
Reshape; shape=1 1 1 1 1 1 5 | f 2 3 | graph
Reshape; shape=256 256 | l 65536 | l 256 256
Expand; shape=3 1 4 | f 2 1 | f 3 2 4
Expand; shape= | b 2 3 | b 2 3
Expand; shape=1 | b | b 1
Expand; shape=2 3 | i 2 3 | i 2 3
Expand; shape=3 | i 2 3 | i 2 3
Expand; shape=3 | i 2 | graph
Expand; shape=0 | i 1 | graph
Expand; shape=-1 | i 1 | graph
Expand; shape=2 -1 | i 2 3 | graph
Expand; shape=65536 | f 1 | f 65536
Expand; shape=65537 | f 1 | limit
Expand; shape=65536 1 | f 2 | limit
Expand; shape=65537 0 | f 1 | graph
Expand; shape=4294967298 | f 2 | limit
Expand; shape=9223372036854775807 | f 1 | limit
Expand; shape=1 1 1 1 1 1 1 | f 1 | limit
Expand; shape=1 1 1 1 1 1 0 | f 1 | graph
`)
}

func TestMoves(t *testing.T) {
	expectLines(t, `
Transpose | f 2 3 4 | f 4 3 2
Transpose | f | f
Transpose; perm= | f | f
Transpose; perm=1 2 0 | b 2 3 4 | b 3 4 2
Transpose; perm=0 1 2 | b 2 3 4 | b 2 3 4
Transpose; perm=1 0 | b 2 3 4 | graph
Transpose; perm= | b 2 | graph
Transpose; perm=0 | b | graph
Transpose; perm=0 1 2 3 | b 2 3 4 | graph
Transpose; perm=0 0 2 | b 2 3 4 | graph
Transpose; perm=0 1 3 | b 2 3 4 | graph
Transpose; perm=0 1 -1 | b 2 3 4 | graph
Transpose; perm=-2 -1 | b 2 3 | graph
Transpose; perm=0 4294967297 | b 2 3 | graph
Concat; axis=0 | f 2 3 | f 2 3
Concat; axis=1 | i 2 3, i 2 1, i 2 5 | i 2 9
Concat; axis=-2 | i 2 3, i 1 3 | i 3 3
Concat; axis=2 | i 2 3, i 2 3 | graph
Concat; axis=-3 | i 2 3, i 2 3 | graph
Concat; axis=0 | i, i | graph
Concat; axis=0 | i | graph
Concat; axis=0 | i 2, i 2 1 | graph
Concat; axis=1 | i 2 1, i 2 | graph
Concat; axis=0 | i 2 3, i 2 4 | graph
Concat; axis=0 | i 2 3 4, i 2 3 4, i 2 3 5 | graph
Concat; axis=0 | f 65535, f 1 | f 65536
Concat; axis=0 | f 65536, f 1 | limit
Gather | f 5 3, l 2 | f 2 3
Gather | f 5, i | f
Gather; axis=1 | b 5 3, i | b 5
Gather; axis=1 | f 2 3, l 4 5 | f 2 4 5
Gather; axis=-1 | f 2 3, l 4 5 | f 2 4 5
Gather; axis=-2 | f 2 3, l 4 | f 4 3
Gather; axis=2 | f 2 3, l 4 | graph
Gather; axis=-3 | f 2 3, l 4 | graph
Gather | f, l 4 | graph
Gather; axis=-1 | f, l | graph
Gather | f 1 1 1, l 1 1 1 1 | f 1 1 1 1 1 1
Gather | f 1 1 1 1, l 1 1 1 1 | limit
Gather | f 1 300, l 300 | limit
Pad; pads=1 2 | f 2 | f 5
Pad; pads=1 0 2 3; value=nan | f 2 3 | f 5 6
Pad; pads= | f | f
Pad; pads=0 0 | f | graph
Pad; pads=1 | f 2 | graph
Pad; pads=1 1 1 | f 2 | graph
Pad; pads= | f 2 | graph
Pad; pads=-1 1 | f 2 | graph
Pad; pads=1 -1 | f 2 | graph
Pad; pads=0 65535 | f 1 | f 65536
Pad; pads=0 65536 | f 1 | limit
Pad; pads=65536 65536 | f 65536 | limit
Pad; pads=0 65537 | f 1 | graph
Pad; pads=9223372036854775807 0 | f 1 | graph
Squeeze; axes=0 -1 | f 1 2 1 | f 2
Squeeze; axes= | f 1 2 1 | f 1 2 1
Squeeze; axes=0 | l 1 | l
Squeeze; axes=1 | f 1 2 1 | graph
Squeeze; axes=3 | f 1 2 1 | graph
Squeeze; axes=-4 | f 1 2 1 | graph
Squeeze; axes=2 -1 | f 1 2 1 | graph
Squeeze; axes=0 | f | graph
Unsqueeze; axes=0 -1 | f 2 | f 1 2 1
Unsqueeze; axes=0 | b | b 1
Unsqueeze; axes=1 | b | graph
Unsqueeze; axes=-1 | b 2 3 | b 2 3 1
Unsqueeze; axes=-3 | b 2 3 | b 1 2 3
Unsqueeze; axes=-4 | b 2 3 | graph
Unsqueeze; axes=3 1 | b 2 3 | b 2 1 3 1
Unsqueeze; axes=4 1 | b 2 3 | graph
Unsqueeze; axes=2 2 | b 2 3 | graph
Unsqueeze; axes=2 -2 | b 2 3 | graph
Unsqueeze; axes= | b 2 3 | b 2 3
Unsqueeze; axes=0 1 2 3 4 5 | b | b 1 1 1 1 1 1
Unsqueeze; axes=0 1 2 3 4 5 6 | b | limit
Unsqueeze; axes=0 1 2 3 4 5 5 | b | graph
Flatten | f 2 3 4 | f 2 12
Flatten | f 2 | f 2 1
Flatten; axis=0 | b 2 3 4 | b 1 24
Flatten; axis=2 | i 2 3 4 | i 6 4
Flatten; axis=3 | i 2 3 4 | i 24 1
Flatten; axis=4 | i 2 3 4 | graph
Flatten; axis=-1 | i 2 3 4 | i 6 4
Flatten; axis=-3 | i 2 3 4 | i 1 24
Flatten; axis=-4 | i 2 3 4 | graph
Flatten | l | graph
Flatten; axis=0 | l | l 1 1
Flatten; axis=-1 | l | graph
`)
}

func TestSlice(t *testing.T) {
	expectLines(t, `
Slice; starts=1; ends=3 | f 5 2 | f 2 2
Slice; starts=1 0; ends=3 1 | b 5 2 | b 2 1
Slice; starts=; ends= | b 5 2 | b 5 2
Slice; starts=; ends= | b | b
Slice; starts=; ends=; axes= | b 5 | b 5
Slice; starts=0; ends=5 | i 5 | i 5
Slice; starts=0; ends=6 | i 5 | i 5
Slice; starts=-5; ends=-4 | i 5 | i 1
Slice; starts=-6; ends=-4 | i 5 | i 1
Slice; starts=-100; ends=100 | i 5 | i 5
Slice; starts=4; ends=5 | i 5 | i 1
Slice; starts=5; ends=6 | i 5 | graph
Slice; starts=6; ends=7 | i 5 | graph
Slice; starts=3; ends=3 | i 5 | graph
Slice; starts=4; ends=3 | i 5 | graph
Slice; starts=0; ends=0 | i 5 | graph
Slice; starts=0; ends=-5 | i 5 | graph
Slice; starts=-1; ends=-2 | i 5 | graph
Slice; starts=-9; ends=-8 | i 5 | graph
Slice; starts=-9223372036854775808; ends=9223372036854775807 | i 5 | i 5
Slice; starts=9223372036854775807; ends=9223372036854775807 | i 5 | graph
Slice; starts=-9223372036854775808; ends=-9223372036854775808 | i 5 | graph
Slice; starts=0 0; ends=1 2; axes=2 0 | l 4 5 6 | l 2 5 1
Slice; starts=1; ends=3; axes=-1 | l 4 5 6 | l 4 5 2
Slice; starts=0 0; ends=1 2; axes=-3 0 | l 4 5 6 | graph
Slice; starts=0 0; ends=1 2; axes=1 1 | l 4 5 6 | graph
Slice; starts=0; ends=1; axes=3 | l 4 5 6 | graph
Slice; starts=0; ends=1; axes=-4 | l 4 5 6 | graph
Slice; starts=0 0; ends=1 | l 4 5 6 | graph
Slice; starts=0; ends=1 1 | l 4 5 6 | graph
Slice; starts=0; ends=1; axes=0 1 | l 4 5 6 | graph
Slice; starts=0 0; ends=1 1; axes=0 | l 4 5 6 | graph
Slice; starts=0; ends=1; axes= | l 4 5 6 | graph
Slice; starts=0 0 0 0; ends=1 1 1 1 | l 4 5 6 | graph
Slice; starts=0; ends=1 | l | graph
`)
}

func TestMatrices(t *testing.T) {
	expectLines(t, `
MatMul | f 2 3, f 3 4 | f 2 4
MatMul | f 2 3, f 2 3 | graph
MatMul | f 2 1, f 3 4 | graph
MatMul | f 3, f 3 4 | graph
MatMul | f 2 3, f 3 | graph
MatMul | f, f | graph
MatMul | f 5 1 2 3, f 6 3 4 | f 5 6 2 4
MatMul | f 2 3, f 5 6 3 4 | f 5 6 2 4
MatMul | f 5 2 3, f 6 3 4 | graph
MatMul | f 1 1 1 1 2 3, f 3 1 | f 1 1 1 1 2 1
MatMul | f 300 1 1 1, f 300 1 1 | limit
MatMul | f 300 1 1 1, f 300 2 1 | graph
MatMul | f 300 1, f 1 300 | limit
MatMul | f 256 1, f 1 256 | f 256 256
Gemm | f 2 3, f 3 4 | f 2 4
Gemm; transA=1 | f 3 2, f 3 4 | f 2 4
Gemm; transB=1 | f 2 3, f 4 3 | f 2 4
Gemm; transA=1; transB=1; alpha=2; beta=nan | f 3 2, f 4 3 | f 2 4
Gemm; transA=0; transB=0 | f 2 3, f 3 4 | f 2 4
Gemm; transA=1 | f 2 3, f 3 4 | graph
Gemm; transB=1 | f 2 3, f 3 4 | graph
Gemm; transA=2 | f 2 3, f 3 4 | graph
Gemm; transA=-1 | f 2 3, f 3 4 | graph
Gemm; transB=2 | f 2 3, f 3 4 | graph
Gemm; transB=4294967296 | f 2 3, f 3 4 | graph
Gemm | f 1 2 3, f 3 4 | graph
Gemm | f 2 3, f 1 3 4 | graph
Gemm | f 2 3, f 3 | graph
Gemm | f 3, f 3 4 | graph
Gemm | f 2 3, f 3 4, f | f 2 4
Gemm | f 2 3, f 3 4, f 1 | f 2 4
Gemm | f 2 3, f 3 4, f 4 | f 2 4
Gemm | f 2 3, f 3 4, f 1 4 | f 2 4
Gemm | f 2 3, f 3 4, f 2 1 | f 2 4
Gemm | f 2 3, f 3 4, f 2 4 | f 2 4
Gemm | f 2 3, f 3 4, f 2 | graph
Gemm | f 2 3, f 3 4, f 3 4 | graph
Gemm | f 2 3, f 3 4, f 1 2 4 | graph
Gemm | f 1 3, f 3 4, f 2 4 | graph
Gemm | f 2 3, f 3 1, f 4 | graph
Gemm | f 300 1, f 1 300 | limit
Gemm | f 300 1, f 1 300, f 1 | limit
Gemm | f 300 1, f 1 300, f 7 | limit
Gemm | f 300 1, f 2 300, f 1 | graph
Gemm | f 1 1, f 1 256, f 257 1 | limit
`)
}

func TestConstantAndThen(t *testing.T) {
	expectLines(t, `
Constant; value=f 2: 1 2 | | f 2
Constant; value=b: 1 | | b
Constant; value=i 1 3: 1 2 3 | | i 1 3
Constant; value=l 1 1: 1; then=Neg,Abs | | l 1 1
Constant; value=b: 1; then=Neg | | graph
Constant; value=b: 2 | | graph
Constant; value=b 0: | | graph
Constant; value=b 65537: | | limit
Constant; value=3: 1 | | unsupported
Neg; then=Neg,Abs,Identity | i 2 | i 2
Neg; then=Relu,Sqrt,Floor,Exp,Sigmoid,Tanh | f 2 | f 2
Neg; then=Abs,Relu | i 2 | graph
Neg; then=Relu,Abs | l 2 | graph
Neg; then=Not | f 2 | graph
Less; then=Not,Identity | f 2, f 2 | b 2
Less; then=Relu | f 2, f 2 | graph
Cast; to=1; then=Relu | b 2 | f 2
Cast; to=9; then=Not | f 2 | b 2
Cast; to=9; then=Relu | f 2 | graph
ArgMax; then=Relu | f 2 | graph
ArgMax; then=Neg | f 2 | l 1
Where; then=Not | b, f, f | graph
Gather; then=Not | b 2, l 2 | b 2
Gather; then=Neg | b 2, l 2 | graph
`)
}
