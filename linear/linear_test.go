package linear

import (
	"testing"

	"mandrel/spell"
)

func expectLines(t *testing.T, lines string) {
	t.Helper()
	for _, text := range spell.Unlike(Do, lines) {
		t.Errorf("P12.1: %s", text)
	}
}

func TestExamples(t *testing.T) {
	expectLines(t, `
MatMul | f 1 2: 1 2, f 2 1: 3 4 | f 1 1: 11
MatMul | f 1 2: inf 1, f 2 1: 0 1 | f 1 1: nan
`)
}

func TestMatMul(t *testing.T) {
	expectLines(t, `
MatMul | f 2 2: 1 2 3 4, f 2 2: 5 6 7 8 | f 2 2: 19 22 43 50
MatMul | f 2 3: 1 2 3 4 5 6, f 3 2: 1 2 3 4 5 6 | f 2 2: 22 28 49 64
MatMul | f 3 2: 1 2 3 4 5 6, f 2 3: 1 2 3 4 5 6 | f 3 3: 9 12 15 19 26 33 29 40 51
MatMul | f 2 1: 1 2, f 1 3: 3 4 5 | f 2 3: 3 4 5 6 8 10
MatMul | f 1 1: 3, f 1 1: -0.5 | f 1 1: -1.5
`)
}

// Rows of matrices, spread on either side, on both at once, and by dimensions that are not there.
func TestMatMulSpread(t *testing.T) {
	expectLines(t, `
MatMul | f 2 1 2: 1 2 3 4, f 2 2 1: 5 6 7 8 | f 2 1 1: 17 53
MatMul | f 2 1 2: 1 2 3 4, f 2 1: 5 6 | f 2 1 1: 17 39
MatMul | f 1 2: 1 2, f 2 2 1: 5 6 7 8 | f 2 1 1: 17 23
MatMul | f 2 1 2: 1 2 3 4, f 1 2 1: 5 6 | f 2 1 1: 17 39
MatMul | f 1 1 2: 1 2, f 2 2 1: 5 6 7 8 | f 2 1 1: 17 23
MatMul | f 2 1 1 2: 1 2 3 4, f 3 2 1: 1 0 0 1 1 1 | f 2 3 1 1: 1 2 3 3 4 7
MatMul | f 3 1 2: 1 0 0 1 1 1, f 2 1 2 1: 1 2 3 4 | f 2 3 1 1: 1 2 3 3 4 7
MatMul | f 2 1 1 1: 1 2, f 1 2 1 1: 3 5 | f 2 2 1 1: 3 5 6 10
MatMul | f 1 2 1 2: 1 2 3 4, f 2 2: 1 2 3 4 | f 1 2 1 2: 7 10 15 22
MatMul | f 2 2 1: 1 2 3 4, f 1 2: 5 6 | f 2 2 2: 5 6 10 12 15 18 20 24
MatMul | f 2 1 2 1 1 1: 1 2 3 4, f 2 1 1: 5 6 | f 2 1 2 2 1 1: 5 6 10 12 15 18 20 24
MatMul | f 1 1 1 1 1 1: 2, f 1 1: 3 | f 1 1 1 1 1 1: 6
`)
}

// Above 2^24 the next Floats are 2 apart: a 1 by itself is lost, two of them together are not. Each product is rounded ahead of the sum.
func TestOrderOfSums(t *testing.T) {
	expectLines(t, `
MatMul | f 1 3: 16777216 1 1, f 3 1: 1 1 1 | f 1 1: 16777216
MatMul | f 1 3: 1 1 16777216, f 3 1: 1 1 1 | f 1 1: 16777218
MatMul | f 1 3: 1 16777216 1, f 3 1: 1 1 1 | f 1 1: 16777216
MatMul | f 1 3: 1 1 1, f 3 1: 16777216 1 1 | f 1 1: 16777216
MatMul | f 1 3: 1 1 1, f 3 1: 1 1 16777216 | f 1 1: 16777218
MatMul | f 2 3: 16777216 1 1 1 1 16777216, f 3 2: 1 0 1 1 1 1 | f 2 2: 16777216 2 16777218 16777216
MatMul | f 1 5: 16777216 1 1 1 1, f 5 1: 1 1 1 1 1 | f 1 1: 16777216
MatMul | f 1 5: 1 1 1 1 16777216, f 5 1: 1 1 1 1 1 | f 1 1: 16777220
MatMul | f 1 2: -1.00048828125 1.000244140625, f 2 1: 1 1.000244140625 | f 1 1: 0
MatMul | f 1 2: 1.000244140625 -1.00048828125, f 2 1: 1.000244140625 1 | f 1 1: 0
MatMul | f 1 3: 3e38 3e38 -3e38, f 3 1: 1 1 1 | f 1 1: inf
MatMul | f 1 3: 3e38 -3e38 3e38, f 3 1: 1 1 1 | f 1 1: 3e38
Gemm | f 1 3: 16777216 1 1, f 3 1: 1 1 1 | f 1 1: 16777216
Gemm | f 1 3: 1 1 16777216, f 3 1: 1 1 1 | f 1 1: 16777218
Gemm; transA=1 | f 3 1: 16777216 1 1, f 3 1: 1 1 1 | f 1 1: 16777216
Gemm; transA=1 | f 3 1: 1 1 16777216, f 3 1: 1 1 1 | f 1 1: 16777218
Gemm; transB=1 | f 1 3: 1 1 1, f 1 3: 16777216 1 1 | f 1 1: 16777216
Gemm; transB=1 | f 1 3: 1 1 1, f 1 3: 1 1 16777216 | f 1 1: 16777218
Gemm | f 1 2: 1 1, f 2 1: 1 1, f 1: 16777216 | f 1 1: 16777218
Gemm | f 1 2: 16777216 1, f 2 1: 1 1, f 1: 1 | f 1 1: 16777216
`)
}

func TestProductsOfWhatIsNotOrdinary(t *testing.T) {
	expectLines(t, `
MatMul | f 1 1: -0, f 1 1: 1 | f 1 1: 0
MatMul | f 1 1: 0, f 1 1: -1 | f 1 1: 0
MatMul | f 1 2: -0 -0, f 2 1: 1 1 | f 1 1: 0
MatMul | f 1 1: inf, f 1 1: 2 | f 1 1: inf
MatMul | f 1 1: inf, f 1 1: -2 | f 1 1: -inf
MatMul | f 1 2: inf inf, f 2 1: 1 -1 | f 1 1: nan
MatMul | f 1 1: 0, f 1 1: inf | f 1 1: nan
MatMul | f 1 2: 0 1, f 2 1: nan 1 | f 1 1: nan
MatMul | f 2 1: nan 1, f 1 2: 1 2 | f 2 2: nan nan 1 2
MatMul | f 2 1: 1 2, f 1 2: nan 1 | f 2 2: nan 1 nan 2
MatMul | f 1 1: 3e38, f 1 1: 2 | f 1 1: inf
MatMul | f 1 1: 1e-45, f 1 1: 0.5 | f 1 1: 0
Gemm | f 1 1: -0, f 1 1: 1 | f 1 1: 0
Gemm; alpha=-1 | f 1 1: 0, f 1 1: 1 | f 1 1: -0
Gemm; alpha=-1 | f 1 1: 0, f 1 1: 1, f: -0 | f 1 1: -0
Gemm; alpha=-1; beta=-1 | f 1 1: 0, f 1 1: 1, f: -0 | f 1 1: 0
Gemm; alpha=0 | f 1 1: inf, f 1 1: 1 | f 1 1: nan
Gemm; alpha=0 | f 1 1: 5, f 1 1: 1, f: 3 | f 1 1: 3
Gemm; beta=0 | f 1 1: 5, f 1 1: 1, f: 3 | f 1 1: 5
Gemm; beta=0 | f 1 1: 5, f 1 1: 1, f: inf | f 1 1: nan
Gemm; beta=0 | f 1 1: 5, f 1 1: 1, f: nan | f 1 1: nan
Gemm; alpha=nan | f 1 1: 5, f 1 1: 1 | f 1 1: nan
Gemm; beta=nan | f 1 1: 5, f 1 1: 1 | f 1 1: 5
Gemm; beta=nan | f 1 1: 5, f 1 1: 1, f: 0 | f 1 1: nan
Gemm; alpha=inf; beta=inf | f 1 1: 5, f 1 1: 1, f: -1 | f 1 1: nan
`)
}

func TestGemm(t *testing.T) {
	expectLines(t, `
Gemm | f 2 2: 1 2 3 4, f 2 2: 5 6 7 8 | f 2 2: 19 22 43 50
Gemm; transA=0; transB=0 | f 2 2: 1 2 3 4, f 2 2: 5 6 7 8 | f 2 2: 19 22 43 50
Gemm; transA=1 | f 2 2: 1 2 3 4, f 2 2: 5 6 7 8 | f 2 2: 26 30 38 44
Gemm; transB=1 | f 2 2: 1 2 3 4, f 2 2: 5 6 7 8 | f 2 2: 17 23 39 53
Gemm; transA=1; transB=1 | f 2 2: 1 2 3 4, f 2 2: 5 6 7 8 | f 2 2: 23 31 34 46
Gemm | f 2 3: 1 2 3 4 5 6, f 3 1: 1 2 3 | f 2 1: 14 32
Gemm; transA=1 | f 3 2: 1 4 2 5 3 6, f 3 1: 1 2 3 | f 2 1: 14 32
Gemm; transB=1 | f 2 3: 1 2 3 4 5 6, f 1 3: 1 2 3 | f 2 1: 14 32
Gemm; transA=1; transB=1 | f 3 2: 1 4 2 5 3 6, f 1 3: 1 2 3 | f 2 1: 14 32
Gemm; transB=1 | f 1 2: 1 2, f 3 2: 1 2 3 4 5 6 | f 1 3: 5 11 17
Gemm; alpha=2 | f 2 2: 1 2 3 4, f 2 2: 5 6 7 8 | f 2 2: 38 44 86 100
Gemm; alpha=-0.5 | f 1 1: 3, f 1 1: 4 | f 1 1: -6
Gemm; beta=7 | f 1 1: 3, f 1 1: 4 | f 1 1: 12
Gemm; transA=1; alpha=2 | f 2 2: 1 2 3 4, f 2 1: 1 1, f: 1 | f 2 1: 9 13
`)
}

// The third input: by itself, by beta, and spread each way.
func TestGemmWithAThirdInput(t *testing.T) {
	expectLines(t, `
Gemm | f 2 1: 1 2, f 1 2: 10 20, f 2 2: 1 2 3 4 | f 2 2: 11 22 23 44
Gemm | f 2 1: 1 2, f 1 2: 10 20, f: 5 | f 2 2: 15 25 25 45
Gemm | f 2 1: 1 2, f 1 2: 10 20, f 1: 5 | f 2 2: 15 25 25 45
Gemm | f 2 1: 1 2, f 1 2: 10 20, f 2: 5 7 | f 2 2: 15 27 25 47
Gemm | f 2 1: 1 2, f 1 2: 10 20, f 1 2: 5 7 | f 2 2: 15 27 25 47
Gemm | f 2 1: 1 2, f 1 2: 10 20, f 2 1: 5 7 | f 2 2: 15 25 27 47
Gemm | f 2 1: 1 2, f 1 2: 10 20, f 1 1: 5 | f 2 2: 15 25 25 45
Gemm; beta=3 | f 2 1: 1 2, f 1 2: 10 20, f 2: 5 7 | f 2 2: 25 41 35 61
Gemm; alpha=2; beta=-1 | f 2 1: 1 2, f 1 2: 10 20, f 2 1: 5 7 | f 2 2: 15 35 33 73
Gemm; beta=-1; alpha=2; transB=1; transA=1 | f 1 2: 1 2, f 2 1: 10 20, f 2 1: 5 7 | f 2 2: 15 35 33 73
Gemm; alpha=2 | f 1 2: 3e38 -3e38, f 2 1: 1 1, f: 1 | f 1 1: 1
Gemm; alpha=1.000244140625 | f 1 1: 1.000244140625, f 1 1: 1, f: -1.00048828125 | f 1 1: 0
Gemm; beta=1.000244140625 | f 1 1: -1.00048828125, f 1 1: 1, f: 1.000244140625 | f 1 1: 0
Gemm; alpha=2; beta=2 | f 1 1: 3e38, f 1 1: 1, f: -3e38 | f 1 1: nan
Gemm | f 2 1: 1 2, f 1 2: 10 20, f 3: 5 7 9 | graph
Gemm | f 1 1: 1, f 1 1: 10, f 2: 5 7 | graph
Gemm | f 1 1: 1, f 1 1: 10, f 1 1 1: 5 | graph
Gemm | f 1 1: 1, f 1 1: 10, i: 5 | graph
`)
}

func TestTypesAndDimsThatThereAreNot(t *testing.T) {
	expectLines(t, `
MatMul | i 1 1: 1, i 1 1: 1 | graph
MatMul | l 1 1: 1, l 1 1: 1 | graph
MatMul | f 1 1: 1, i 1 1: 1 | graph
MatMul | f 1: 1, f 1 1: 1 | graph
MatMul | f 1 1: 1, f 1: 1 | graph
MatMul | f: 1, f: 1 | graph
MatMul | f 1 2: 1 2, f 1 2: 1 2 | graph
MatMul | f 2 1: 1 2, f 2 1: 1 2 | graph
MatMul | f 2 1 1: 1 2, f 3 1 1: 1 2 3 | graph
MatMul | f 1 1: 1 | graph
MatMul | f 1 1: 1, f 1 1: 1, f 1 1: 1 | graph
Gemm | i 1 1: 1, i 1 1: 1 | graph
Gemm | f 1: 1, f 1 1: 1 | graph
Gemm | f 1 1 1: 1, f 1 1: 1 | graph
Gemm | f 1 1: 1, f 1 1 1: 1 | graph
Gemm | f 1 2: 1 2, f 1 2: 1 2 | graph
Gemm; transA=1 | f 1 2: 1 2, f 2 1: 1 2 | graph
Gemm; transB=1 | f 1 2: 1 2, f 2 1: 1 2 | graph
Gemm; transA=2 | f 1 1: 1, f 1 1: 1 | graph
Gemm; transB=-1 | f 1 1: 1, f 1 1: 1 | graph
`)
}

// What follows in a node is not done here, though it must be for the type.
func TestThenIsNotDone(t *testing.T) {
	expectLines(t, `
MatMul; then=Neg | f 1 1: 2, f 1 1: 3 | f 1 1: 6
Gemm; then=Neg,Exp | f 1 1: 2, f 1 1: 3 | f 1 1: 6
Gemm; then=Relu | f 1 1: 2, f 1 1: -3, f: 1 | f 1 1: -5
MatMul; then=Not | f 1 1: 2, f 1 1: 3 | graph
Gemm; then=Add | f 1 1: 2, f 1 1: 3 | graph
`)
}

func TestWrongInputs(t *testing.T) {
	expectLines(t, `
MatMul | f 1 1: 1, f 1 2: 1 | arg
MatMul | f 2 1: 1, f 1 1: 1 | arg
MatMul | f 1 1: 1, f 1 1: | arg
MatMul | f 1 0:, f 0 1: | arg
MatMul | 3 1 1: 1, f 1 1: 1 | arg
MatMul | f 1 1 1 1 1 1 1: 1, f 1 1: 1 | arg
Gemm | f 1 1: 1, f 1 1: 1, b: 2 | arg
MatMul; transA=1 | f 1 1: 1, f 1 1: 1 | unsupported
Gemm; axis=1 | f 1 1: 1, f 1 1: 1 | unsupported
What | f 1 1: 1, f 1 1: 1 | unsupported
`)
}

func TestOperatorsOfOtherLayers(t *testing.T) {
	expectLines(t, spell.Others("MatMul Gemm"))
}

// R2: a tensor that may not be, then infer's error, then another layer's operator.
func TestTheFirstError(t *testing.T) {
	expectLines(t, `
What | b: 2 | arg
MatMul | f 1 2: 1 2, i 1 2: 1 | arg
MatMul; transA=1 | f 1 1: 1, b: 2 | arg
Gemm; transA=2 | f 1 1: 1, f 1: 1, b: 2 | arg
Add | i 2: 1, l 1: 2 | arg
Add | i: 1, l: 1 | graph
Add | i 2: 1 2, i 3: 1 2 3 | graph
ReduceSum; axes=3 | f 1: 1 | graph
Neg; then=Not | i: 1 | graph
Cast; to=2 | i: 1 | unsupported
Reshape; shape=1 1 1 1 1 1 1 | i: 1 | limit
`)
}
