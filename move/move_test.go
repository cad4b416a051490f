package move

import (
	"testing"

	"mandrel/spell"
)

func expectLines(t *testing.T, lines string) {
	t.Helper()
	for _, text := range spell.Unlike(Do, lines) {
		t.Errorf("P10.1: %s", text)
	}
}

func TestExamples(t *testing.T) {
	expectLines(t, `
Gather | i 3: 10 20 30, i 3: 2 0 -1 | i 3: 30 10 30
Gather | i 3: 10 20 30, i 1: 3 | index
Pad; pads=1 0; value=9 | f 2: 1 2 | f 3: 9 1 2
`)
}

func TestElementsInTheirOrder(t *testing.T) {
	expectLines(t, `
Reshape; shape=3 2 | i 2 3: 1 2 3 4 5 6 | i 3 2: 1 2 3 4 5 6
Reshape; shape=-1 | i 2 3: 1 2 3 4 5 6 | i 6: 1 2 3 4 5 6
Reshape; shape=0 -1 1 | f 2 3: 1 2 3 4 nan -0 | f 2 3 1: 1 2 3 4 nan -0
Reshape; shape=1 0 -1 | b 2 3: 1 0 0 1 1 0 | b 1 3 2: 1 0 0 1 1 0
Reshape; shape= | l 1 1: 7 | l: 7
Reshape; shape=1 1 | l: 7 | l 1 1: 7
Reshape; shape=4 | i 2 3: 1 2 3 4 5 6 | graph
Reshape; shape=-1 4 | i 2 3: 1 2 3 4 5 6 | graph
Reshape; shape=1 1 1 1 1 1 1 | i: 1 | limit
Squeeze; axes=0 | i 1 2: 1 2 | i 2: 1 2
Squeeze; axes=-1 0 | b 1 2 1: 1 0 | b 2: 1 0
Squeeze; axes=1 3 2 | l 2 1 1 1 2: 1 2 3 4 | l 2 2: 1 2 3 4
Squeeze; axes= | f 1: 1 | f 1: 1
Squeeze; axes=0 | f 1: 1 | f: 1
Squeeze; axes=1 | f 1 2: 1 2 | graph
Unsqueeze; axes=0 | i 2: 1 2 | i 1 2: 1 2
Unsqueeze; axes=-1 0 | i 2: 1 2 | i 1 2 1: 1 2
Unsqueeze; axes=1 2 4 | l 2 2: 1 2 3 4 | l 2 1 1 2 1: 1 2 3 4
Unsqueeze; axes= | b: 1 | b: 1
Unsqueeze; axes=2 | i 2: 1 2 | graph
Flatten | i 2 1 3: 1 2 3 4 5 6 | i 2 3: 1 2 3 4 5 6
Flatten; axis=0 | i 2 3: 1 2 3 4 5 6 | i 1 6: 1 2 3 4 5 6
Flatten; axis=2 | i 2 3: 1 2 3 4 5 6 | i 6 1: 1 2 3 4 5 6
Flatten; axis=-1 | l 2 2 1: 1 2 3 4 | l 4 1: 1 2 3 4
Flatten; axis=0 | f: 5 | f 1 1: 5
Flatten; axis=3 | i 2 3: 1 2 3 4 5 6 | graph
`)
}

func TestConstant(t *testing.T) {
	expectLines(t, `
Constant; value=f 3: 1.5 nan -0 | | f 3: 1.5 nan -0
Constant; value=i 1 2: -2147483648 7 | | i 1 2: -2147483648 7
Constant; value=l: 9223372036854775807 | | l: 9223372036854775807
Constant; value=b 2 1: 0 1 | | b 2 1: 0 1
Constant; then=Neg; value=l: 3 | | l: 3
Constant; value=b: 2 | | graph
Constant; value=i 2: 1 | | graph
Constant; value=3: 1 | | unsupported
Constant; value=i 65537: | | limit
Constant; value=i: 1 | i: 1 | graph
`)
}

func TestExpand(t *testing.T) {
	expectLines(t, `
Expand; shape=2 | i: 7 | i 2: 7 7
Expand; shape=2 3 | i 3: 1 2 3 | i 2 3: 1 2 3 1 2 3
Expand; shape=3 | i 2 1: 1 2 | i 2 3: 1 1 1 2 2 2
Expand; shape=2 1 1 | i 2 3: 1 2 3 4 5 6 | i 2 2 3: 1 2 3 4 5 6 1 2 3 4 5 6
Expand; shape=2 2 2 | b 2 1: 1 0 | b 2 2 2: 1 1 0 0 1 1 0 0
Expand; shape=1 | f 2: nan -0 | f 2: nan -0
Expand; shape= | l 2: 1 2 | l 2: 1 2
Expand; shape=3 | i 2: 1 2 | graph
Expand; shape=0 | i 1: 1 | graph
Expand; shape=65537 | i 1: 1 | limit
`)
}

func TestTranspose(t *testing.T) {
	expectLines(t, `
Transpose | i 2 3: 1 2 3 4 5 6 | i 3 2: 1 4 2 5 3 6
Transpose | i: 1 | i: 1
Transpose | b 2: 1 0 | b 2: 1 0
Transpose | i 1 2 3: 1 2 3 4 5 6 | i 3 2 1: 1 4 2 5 3 6
Transpose; perm=0 1 | i 2 3: 1 2 3 4 5 6 | i 2 3: 1 2 3 4 5 6
Transpose; perm=1 0 | f 2 2: 1 nan -0 4 | f 2 2: 1 -0 nan 4
Transpose; perm=1 2 0 | i 2 1 3: 1 2 3 4 5 6 | i 1 3 2: 1 4 2 5 3 6
Transpose; perm=2 0 1 | i 2 1 3: 1 2 3 4 5 6 | i 3 2 1: 1 4 2 5 3 6
Transpose; perm=1 2 0 | l 2 2 2: 0 1 2 3 4 5 6 7 | l 2 2 2: 0 4 1 5 2 6 3 7
Transpose; perm=2 0 1 | l 2 2 2: 0 1 2 3 4 5 6 7 | l 2 2 2: 0 2 4 6 1 3 5 7
Transpose; perm=0 0 | i 2 3: 1 2 3 4 5 6 | graph
Transpose; perm=0 -1 | i 2 3: 1 2 3 4 5 6 | graph
Transpose; perm=0 | i 2 3: 1 2 3 4 5 6 | graph
`)
}

func TestConcat(t *testing.T) {
	expectLines(t, `
Concat; axis=0 | i 2: 1 2 | i 2: 1 2
Concat; axis=1 | i 1 2: 1 2 | i 1 2: 1 2
Concat; axis=0 | i 2: 1 2, i 1: 3 | i 3: 1 2 3
Concat; axis=0 | i 1 2: 1 2, i 2 2: 3 4 5 6 | i 3 2: 1 2 3 4 5 6
Concat; axis=1 | i 2 1: 1 2, i 2 2: 3 4 5 6 | i 2 3: 1 3 4 2 5 6
Concat; axis=-1 | i 2 1: 1 2, i 2 2: 3 4 5 6 | i 2 3: 1 3 4 2 5 6
Concat; axis=-2 | i 1 2: 1 2, i 2 2: 3 4 5 6 | i 3 2: 1 2 3 4 5 6
Concat; axis=1 | f 2 1 2: 1 2 3 nan, f 2 2 2: 5 6 7 8 9 10 11 -0 | f 2 3 2: 1 2 5 6 7 8 3 nan 9 10 11 -0
Concat; axis=2 | b 1 2 1: 1 0, b 1 2 1: 0 1, b 1 2 1: 1 1 | b 1 2 3: 1 0 1 0 1 1
Concat; axis=0 | l 1: 1, l 1: 2, l 1: 3, l 1: 4, l 1: 5, l 1: 6, l 1: 7, l 1: 8, l 1: 9, l 1: 10, l 1: 11, l 1: 12, l 1: 13, l 1: 14, l 1: 15, l 1: 16, l 1: 17, l 1: 18, l 1: 19, l 1: 20 | l 20: 1 2 3 4 5 6 7 8 9 10 11 12 13 14 15 16 17 18 19 20
Concat; axis=0 | l 1: 1, l 1: 2, l 1: 3, l 1: 4, l 1: 5, l 1: 6, l 1: 7, l 1: 8, l 1: 9, l 1: 10, l 1: 11, l 1: 12, l 1: 13, l 1: 14, l 1: 15, l 1: 16, l 1: 17, l 1: 18, l 1: 19, l 1: 20, l 1: 21 | graph
Concat; axis=0 | | graph
Concat; axis=1 | i 2: 1 2, i 1: 3 | graph
Concat; axis=0 | i 2: 1 2, l 1: 3 | graph
Concat; axis=0 | i: 1, i: 2 | graph
Concat; axis=0 | i 1 2: 1 2, i 1 1: 3 | graph
`)
}

func TestSlice(t *testing.T) {
	expectLines(t, `
Slice; starts=1; ends=3 | i 4: 1 2 3 4 | i 2: 2 3
Slice; starts=0; ends=4 | i 4: 1 2 3 4 | i 4: 1 2 3 4
Slice; starts=-2; ends=-1 | i 4: 1 2 3 4 | i 1: 3
Slice; starts=-3; ends=100 | i 4: 1 2 3 4 | i 3: 2 3 4
Slice; starts=-100; ends=2 | i 4: 1 2 3 4 | i 2: 1 2
Slice; starts=-9223372036854775808; ends=9223372036854775807 | i 4: 1 2 3 4 | i 4: 1 2 3 4
Slice; starts=1; ends=2 | i 2 3: 1 2 3 4 5 6 | i 1 3: 4 5 6
Slice; starts=1; ends=2; axes=1 | i 2 3: 1 2 3 4 5 6 | i 2 1: 2 5
Slice; starts=1; ends=3; axes=-1 | i 2 3: 1 2 3 4 5 6 | i 2 2: 2 3 5 6
Slice; starts=1 1; ends=2 3 | f 2 3: 1 2 3 4 nan -0 | f 1 2: nan -0
Slice; starts=2 0; ends=3 1; axes=1 0 | i 2 3: 1 2 3 4 5 6 | i 1 1: 3
Slice; starts=0 1; ends=1 2; axes=-1 -3 | l 2 2 2: 0 1 2 3 4 5 6 7 | l 1 2 1: 4 6
Slice; starts=; ends= | b 2: 1 0 | b 2: 1 0
Slice; starts=; ends=; axes= | b: 1 | b: 1
Slice; starts=4; ends=5 | i 4: 1 2 3 4 | graph
Slice; starts=2; ends=2 | i 4: 1 2 3 4 | graph
Slice; starts=0; ends=1; axes=1 | i 4: 1 2 3 4 | graph
`)
}

func TestGather(t *testing.T) {
	expectLines(t, `
Gather | i 3: 10 20 30, l: 1 | i: 20
Gather | i 3: 10 20 30, l: -3 | i: 10
Gather | i 3: 10 20 30, i 2 2: 0 2 1 -1 | i 2 2: 10 30 20 30
Gather | i 2 3: 1 2 3 4 5 6, i: 1 | i 3: 4 5 6
Gather; axis=0 | i 2 3: 1 2 3 4 5 6, i 3: 1 0 1 | i 3 3: 4 5 6 1 2 3 4 5 6
Gather; axis=1 | i 2 3: 1 2 3 4 5 6, i: 1 | i 2: 2 5
Gather; axis=1 | i 2 3: 1 2 3 4 5 6, i 2: 2 0 | i 2 2: 3 1 6 4
Gather; axis=-1 | i 2 3: 1 2 3 4 5 6, i 2: 2 0 | i 2 2: 3 1 6 4
Gather; axis=-2 | i 2 3: 1 2 3 4 5 6, i 1: -1 | i 1 3: 4 5 6
Gather; axis=1 | f 2 2 2: 0 1 2 3 4 5 nan -0, l 1 2: 1 0 | f 2 1 2 2: 2 3 0 1 nan -0 4 5
Gather; axis=2 | l 1 2 2: 0 1 2 3, l 2 2: 0 1 -1 -2 | l 1 2 2 2: 0 1 1 0 2 3 3 2
Gather | b 2: 1 0, i 2: 0 1 | b 2: 1 0
Gather | i 3: 10 20 30, i 4: 0 2 -1 -3 | i 4: 10 30 30 10
Gather | i 3: 10 20 30, i: 3 | index
Gather | i 3: 10 20 30, i: -4 | index
Gather | i 3: 10 20 30, l: 9223372036854775807 | index
Gather | i 3: 10 20 30, l: -9223372036854775808 | index
Gather | i 3: 10 20 30, l: 4294967296 | index
Gather | i 3: 10 20 30, i 3: 3 0 0 | index
Gather | i 3: 10 20 30, i 3: 0 -4 0 | index
Gather | i 3: 10 20 30, i 3: 0 0 3 | index
Gather; axis=1 | i 2 1: 1 2, i 2 2: 0 0 0 1 | index
Gather | i 3: 10 20 30, f: 1 | graph
Gather | i 3: 10 20 30, b: 1 | graph
Gather | i: 10, i: 0 | graph
Gather; axis=1 | i 1: 10, i: 0 | graph
`)
}

func TestPad(t *testing.T) {
	expectLines(t, `
Pad; pads=0 0 | f 2: 1 2 | f 2: 1 2
Pad; pads=1 2 | f 2: 1 2 | f 5: 0 1 2 0 0
Pad; pads=1 0; value=-0 | f 1: 1 | f 2: -0 1
Pad; pads=0 1; value=nan | f 1: 1 | f 2: 1 nan
Pad; value=inf; pads=0 1 | f 1: -0 | f 2: -0 inf
Pad; pads=1 0 0 1 | f 1 2: 1 2 | f 2 3: 0 0 0 1 2 0
Pad; pads=0 1 1 0; value=9 | f 2 2: 1 2 3 4 | f 3 3: 9 1 2 9 3 4 9 9 9
Pad; pads=1 0 1 0 0 0; value=7 | f 1 2 1: 1 2 | f 2 2 2: 7 7 7 7 7 1 7 2
Pad; pads= | f: 3 | f: 3
Pad; pads=; value=9 | f: 3 | f: 3
Pad; pads=1 0 | i 2: 1 2 | graph
Pad; pads=1 | f 2: 1 2 | graph
Pad; pads=-1 0 | f 2: 1 2 | graph
Pad; pads=0 65537 | f 1: 1 | graph
Pad; pads=0 65536 | f 1: 1 | limit
`)
}

// What follows in a node is not done here, though it must be for the type.
func TestThenIsNotDone(t *testing.T) {
	expectLines(t, `
Reshape; shape=1; then=Neg | i: 1 | i 1: 1
Expand; shape=2; then=Neg | i: 1 | i 2: 1 1
Transpose; then=Not | b 2: 1 0 | b 2: 1 0
Concat; axis=0; then=Neg,Abs | l 1: 1, l 1: -2 | l 2: 1 -2
Slice; starts=0; ends=1; then=Relu | f 1: -1 | f 1: -1
Gather; then=Neg | f 1: -1, i: 0 | f: -1
Pad; pads=0 1; value=4; then=Exp | f 1: -1 | f 2: -1 4
Squeeze; axes=0; then=Neg | i 1: 5 | i: 5
Unsqueeze; axes=0; then=Neg | i: 5 | i 1: 5
Flatten; then=Neg | i 1: 5 | i 1 1: 5
Constant; value=b: 1; then=Not | | b: 1
Constant; value=b: 1; then=Neg | | graph
Flatten; then=Relu | i 1: 5 | graph
`)
}

func TestWrongInputs(t *testing.T) {
	expectLines(t, `
Transpose | i 2: 1 | arg
Transpose | i 2: 1 2 3 | arg
Transpose | b: 2 | arg
Transpose | 3: 1 | arg
Transpose | i 0: | arg
Flatten | i 1 1 1 1 1 1 1: 1 | arg
Gather | i 1: 1, i: 2147483648 | arg
Concat; axis=0 | i 1: 1, i 1: 1, i 1: | arg
Constant; value=i: 1 | b: 2 | arg
Transpose | i 1: 1, i 1: 1 | graph
What | f: 1 | unsupported
Transpose; axis=1 | f: 1 | unsupported
Reshape | i: 1 | graph
`)
}

func TestOperatorsOfOtherLayers(t *testing.T) {
	expectLines(t, spell.Others(operators))
}

// R2: a tensor that may not be, then infer's error, then another layer's operator, then what is met at a place.
func TestTheFirstError(t *testing.T) {
	expectLines(t, `
What | b: 2 | arg
Neg | b: 2 | arg
Neg | b: 1 | graph
Relu | i: 1 | graph
Cast; to=2 | i: 1 | unsupported
Reshape; shape=7 | i 2: 1 | arg
Gather | i 2: 1, i: 5 | arg
Gather | i 1: 1, i 1 1 1 1 1 1: 5 | index
Gather | i 1 1: 1, i 1 1 1 1 1 1: 5 | limit
Gather; then=Not | i 1: 1, i: 5 | graph
Gather; axis=1 | i 1: 1, i: 5 | graph
Constant; value=b: 2 | i 2: 1 | arg
`)
}
