package elem

import (
	"testing"

	"mandrel/spell"
)

func expectLines(t *testing.T, lines string) {
	t.Helper()
	for _, text := range spell.Unlike(Do, lines) {
		t.Errorf("P9.1: %s", text)
	}
}

func TestExamples(t *testing.T) {
	expectLines(t, `
Add | i 1 3: 1 2 3, i 2 1: 10 20 | i 2 3: 11 12 13 21 22 23
Div | i: 1, i: 0 | divide
`)
}

func TestOperatorsOfOne(t *testing.T) {
	expectLines(t, `
Identity | f 3: -0 nan inf | f 3: -0 nan inf
Identity | i 2: -2147483648 1 | i 2: -2147483648 1
Identity | l 1: 9223372036854775807 | l 1: 9223372036854775807
Identity | b 2 1: 1 0 | b 2 1: 1 0
Neg | f 2 2: 1 -0 nan -inf | f 2 2: -1 0 nan inf
Neg | i 3: 1 0 -2147483648 | i 3: -1 0 -2147483648
Neg | l 2: 1 -9223372036854775808 | l 2: -1 -9223372036854775808
Abs | f 3: -1.5 -0 nan | f 3: 1.5 0 nan
Abs | i 2: -3 3 | i 2: 3 3
Abs | l: -4294967296 | l: 4294967296
Not | b 2: 1 0 | b 2: 0 1
Relu | f 4: -1 2 -0 nan | f 4: 0 2 0 nan
Sqrt | f 4: 4 -0 -1 inf | f 4: 2 -0 nan inf
Floor | f 3: 1.5 -1.5 -0 | f 3: 1 -2 -0
Exp | f 4: 0 90 -106 nan | f 4: 1 inf 0 nan
Sigmoid | f 3: 0 100 -100 | f 3: 0.5 1 0
Tanh | f 4: 0 -0 11 -11 | f 4: 0 -0 1 -1
`)
}

func TestOperatorsOfTwo(t *testing.T) {
	expectLines(t, `
Add | f 2: 1 inf, f 2: 2 -inf | f 2: 3 nan
Add | i 1: 2147483647, i: 1 | i 1: -2147483648
Add | l: 9223372036854775807, l 1 1: 1 | l 1 1: -9223372036854775808
Sub | f 2: 1 0, f: 1 | f 2: 0 -1
Sub | i: 1, i 2: 3 -4 | i 2: -2 5
Sub | l 2: 1 2, l 2: 2 1 | l 2: -1 1
Mul | f 2: 0 2, f 2: inf 0.5 | f 2: nan 1
Mul | i 2: 65536 3, i 2: 65536 -2 | i 2: 0 -6
Mul | l: 4294967296, l: 4294967296 | l: 0
Div | f 2: 1 -3, f: 2 | f 2: 0.5 -1.5
Div | i 2: -7 -2147483648, i 2: 2 -1 | i 2: -3 -2147483648
Div | l 2: -7 7, l 2: 2 -2 | l 2: -3 -3
Max | f 3: -0 1 nan, f 3: 0 -1 1 | f 3: 0 1 nan
Max | i 2: 1 -5, i: -2 | i 2: 1 -2
Max | l 2: 1 -5, l: -2 | l 2: 1 -2
Min | f 3: -0 1 nan, f 3: 0 -1 1 | f 3: -0 -1 nan
Min | i 2: 1 -5, i: -2 | i 2: -2 -5
Min | l 2: 1 -5, l: -2 | l 2: -2 -5
And | b 2 1: 0 1, b 2: 0 1 | b 2 2: 0 0 0 1
Or | b 2 1: 0 1, b 2: 0 1 | b 2 2: 0 1 1 1
Xor | b 2 1: 0 1, b 2: 0 1 | b 2 2: 0 1 1 0
Equal | f 3: -0 nan 1, f 3: 0 nan 2 | b 3: 1 0 0
Equal | i 2: 1 2, i: 2 | b 2: 0 1
Equal | l 2: 1 2, l: 2 | b 2: 0 1
Equal | b 2 1: 0 1, b 2: 0 1 | b 2 2: 1 0 0 1
Less | f 4: -1 0 nan 2, f 4: 0 -0 1 1 | b 4: 1 0 0 0
Less | i 3: 1 2 3, i: 2 | b 3: 1 0 0
Less | l 3: 1 2 3, l: 2 | b 3: 1 0 0
Greater | f 4: -1 0 nan 2, f 4: 0 -0 1 1 | b 4: 0 0 0 1
Greater | i 3: 1 2 3, i: 2 | b 3: 0 0 1
Greater | l 3: 1 2 3, l: 2 | b 3: 0 0 1
`)
}

// Sub tells its inputs apart.
func TestSpreadInputs(t *testing.T) {
	expectLines(t, `
Sub | i: 5, i: 3 | i: 2
Sub | i: 5, i 1 1: 3 | i 1 1: 2
Sub | i 2 2: 1 2 3 4, i: 1 | i 2 2: 0 1 2 3
Sub | i: 1, i 2 2: 1 2 3 4 | i 2 2: 0 -1 -2 -3
Sub | i 2 2: 1 2 3 4, i 2: 10 20 | i 2 2: -9 -18 -7 -16
Sub | i 2: 10 20, i 2 2: 1 2 3 4 | i 2 2: 9 18 7 16
Sub | i 2 2: 1 2 3 4, i 2 1: 10 20 | i 2 2: -9 -8 -17 -16
Sub | i 2 1: 10 20, i 2 2: 1 2 3 4 | i 2 2: 9 8 17 16
Sub | i 2 1 2: 1 2 3 4, i 3 1: 10 20 30 | i 2 3 2: -9 -8 -19 -18 -29 -28 -7 -6 -17 -16 -27 -26
Sub | i 3 1: 10 20 30, i 2 1 2: 1 2 3 4 | i 2 3 2: 9 8 19 18 29 28 7 6 17 16 27 26
Sub | i 1 1 1 1 1 2: 1 2, i 2 1: 10 20 | i 1 1 1 1 2 2: -9 -8 -19 -18
Sub | i 2 3: 1 2 3 4 5 6, i 2: 1 2 | graph
`)
}

func TestWhere(t *testing.T) {
	expectLines(t, `
Where | b 2: 1 0, f 2: 1 2, f 2: 3 4 | f 2: 1 4
Where | b: 1, i 2: 1 2, i: 3 | i 2: 1 2
Where | b: 0, i 2: 1 2, i: 3 | i 2: 3 3
Where | b 2 1: 1 0, l 3: 1 2 3, l: 9 | l 2 3: 1 2 3 9 9 9
Where | b 2: 1 0, b 2 1: 0 1, b: 1 | b 2 2: 0 1 1 1
Where | b 2: 1 0, f: nan, f: -0 | f 2: nan -0
Where | b 2: 1 0, i 3 1: 1 2 3, i 2 1 1: 8 9 | i 2 3 2: 1 8 2 8 3 8 1 9 2 9 3 9
Where | i: 1, f: 1, f: 2 | graph
Where | b: 1, f: 1, i: 2 | graph
Where | b 2: 1 0, f 3: 1 2 3, f: 1 | graph
Where | b 2: 1 0, f: 1, f 3: 1 2 3 | graph
`)
}

func TestClip(t *testing.T) {
	expectLines(t, `
Clip | f 5: inf -inf nan -0 1 | f 5: inf -inf nan -0 1
Clip; min=1 | f 5: inf -inf nan 0 2 | f 5: inf 1 nan 1 2
Clip; max=1 | f 5: inf -inf nan 0 2 | f 5: 1 -inf nan 0 1
Clip; min=-1; max=1 | f 5: inf -inf nan 0.5 2 | f 5: 1 -1 nan 0.5 1
Clip; max=1; min=-1 | f 2 1: -3 3 | f 2 1: -1 1
Clip; min=2; max=1 | f 3: 0 1.5 3 | f 3: 1 1 1
Clip; min=nan | f 3: 0 inf nan | f 3: nan nan nan
Clip; max=nan | f 3: 0 -inf nan | f 3: nan nan nan
Clip; min=0 | f 2: -0 0 | f 2: 0 0
Clip; max=-0 | f 2: -0 0 | f 2: -0 -0
Clip; min=inf | f: 1 | f: inf
Clip; max=-inf | f: 1 | f: -inf
Clip | i: 1 | graph
`)
}

func TestCast(t *testing.T) {
	expectLines(t, `
Cast; to=1 | f 3: -0 nan 1.5 | f 3: -0 nan 1.5
Cast; to=6 | f 6: 1.9 -1.9 nan inf -inf 3e9 | i 6: 1 -1 0 2147483647 -2147483648 2147483647
Cast; to=7 | f 5: 1.9 -1.9 nan inf 3e9 | l 5: 1 -1 0 9223372036854775807 3000000000
Cast; to=9 | f 4: -0 0.1 nan -inf | b 4: 0 1 1 1
Cast; to=1 | i 3: 1 -1 16777217 | f 3: 1 -1 16777216
Cast; to=6 | i: -7 | i: -7
Cast; to=7 | i 1 2: -7 2147483647 | l 1 2: -7 2147483647
Cast; to=9 | i 3: -7 0 1 | b 3: 1 0 1
Cast; to=1 | l 3: 16777219 -1 0 | f 3: 16777220 -1 0
Cast; to=6 | l 3: 4294967297 2147483648 -1 | i 3: 1 -2147483648 -1
Cast; to=7 | l: -9223372036854775808 | l: -9223372036854775808
Cast; to=9 | l 2: 4294967296 0 | b 2: 1 0
Cast; to=1 | b 2: 1 0 | f 2: 1 0
Cast; to=6 | b 2: 1 0 | i 2: 1 0
Cast; to=7 | b 2: 1 0 | l 2: 1 0
Cast; to=9 | b 2: 1 0 | b 2: 1 0
Cast; to=0 | b: 1 | unsupported
Cast; to=8 | b: 1 | unsupported
`)
}

// A nought at one place alone, wherever it is.
func TestDivideByNought(t *testing.T) {
	expectLines(t, `
Div | i 3: 1 2 3, i 3: 0 1 1 | divide
Div | i 3: 1 2 3, i 3: 1 0 1 | divide
Div | i 3: 1 2 3, i 3: 1 1 0 | divide
Div | l 3: 1 2 3, l 3: 1 1 0 | divide
Div | i: 0, i: 0 | divide
Div | l 2 1: 1 2, l 2: 1 0 | divide
Div | i 3: 0 0 0, i 3: 1 2 3 | i 3: 0 0 0
Div | f 4: 1 -1 0 nan, f: 0 | f 4: inf -inf nan nan
Div | f 3: 1 2 3, f 3: 1 -0 1 | f 3: 1 -inf 3
`)
}

// What follows in a node is not done here, though it must be for the type.
func TestThenIsNotDone(t *testing.T) {
	expectLines(t, `
Add; then=Neg | i 2: 1 2, i: 3 | i 2: 4 5
Neg; then=Neg,Abs | f: 1 | f: -1
Less; then=Not | i: 1, i: 2 | b: 1
Where; then=Neg | b: 1, i: 1, i: 2 | i: 1
Clip; then=Relu | f: -1 | f: -1
Cast; to=9; then=Not | f: 1 | b: 1
Cast; to=9; then=Neg | f: 1 | graph
Add; then=Relu | i: 1, i: 1 | graph
Add; then=What | i: 1, i: 1 | graph
`)
}

func TestWrongInputs(t *testing.T) {
	expectLines(t, `
Neg | i 2: 1 | arg
Not | b: 2 | arg
Neg | 3: 1 | arg
Neg | i 0: | arg
Add | i: 1, i 2: 1 | arg
Where | b: 1, i: 1, i: 2147483648 | arg
Neg | b: 1 | graph
Not | f: 1 | graph
Relu | i: 1 | graph
And | i: 1, i: 1 | graph
Less | b: 1, b: 1 | graph
Add | b: 1, b: 1 | graph
Add | i: 1, f: 1 | graph
Add | i: 1 | graph
Add | i 2: 1 2, i 3: 1 2 3 | graph
What | f: 1 | unsupported
Neg; axis=1 | f: 1 | unsupported
`)
}

func TestOperatorsOfOtherLayers(t *testing.T) {
	expectLines(t, spell.Others("Identity Neg Abs Not Relu Sqrt Floor Exp Sigmoid Tanh Add Sub Mul Div Max Min And Or Xor Equal Less Greater Where Clip Cast"))
}

// R2: a tensor that may not be, then infer's error, then another layer's operator, then what is met at a place.
func TestTheFirstError(t *testing.T) {
	expectLines(t, `
Div | i: 1, i 2: 0 | arg
What | b: 2 | arg
MatMul | f: 1, b: 2 | arg
MatMul | f: 1, f: 2 | graph
Cast; to=2 | b: 2 | arg
Div | i: 1, l: 0 | graph
Div; then=Not | i: 1, i: 0 | graph
Gather | f 1: 1, f 1: 0 | graph
Gather | f 1: 1, i 1: 5 | unsupported
`)
}
