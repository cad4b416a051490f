package reduce

import (
	"testing"

	"mandrel/spell"
)

func expectLines(t *testing.T, lines string) {
	t.Helper()
	for _, text := range spell.Unlike(Do, lines) {
		t.Errorf("P11.1: %s", text)
	}
}

func TestExamples(t *testing.T) {
	expectLines(t, `
ReduceSum; axes=0; keepdims=0 | i 2 2: 1 2 3 4 | i 2: 4 6
ArgMax | i 3: 3 1 3 | l 1: 0
Softmax | f 2: 0 0 | f 2: 0.5 0.5
`)
}

func TestReduceSum(t *testing.T) {
	expectLines(t, `
ReduceSum | i 2 2: 1 2 3 4 | i 1 1: 10
ReduceSum | f 2 2: 1 2 3 4.5 | f 1 1: 10.5
ReduceSum | l 2 2: 1 2 3 4294967296 | l 1 1: 4294967302
ReduceSum; keepdims=1 | i 2 2: 1 2 3 4 | i 1 1: 10
ReduceSum; keepdims=0 | i 2 2: 1 2 3 4 | i: 10
ReduceSum; axes=0 | i 2 3: 1 2 3 10 20 30 | i 1 3: 11 22 33
ReduceSum; axes=1 | i 2 3: 1 2 3 10 20 30 | i 2 1: 6 60
ReduceSum; axes=-1 | i 2 3: 1 2 3 10 20 30 | i 2 1: 6 60
ReduceSum; axes=-2; keepdims=0 | i 2 3: 1 2 3 10 20 30 | i 3: 11 22 33
ReduceSum; axes=0 1 | i 2 3: 1 2 3 10 20 30 | i 1 1: 66
ReduceSum; axes=-1 0 | i 2 3: 1 2 3 10 20 30 | i 1 1: 66
ReduceSum; axes=1; keepdims=0 | i 2 2 2: 1 2 3 4 5 6 7 8 | i 2 2: 4 6 12 14
ReduceSum; axes=0 2; keepdims=0 | i 2 3 2: 1 2 3 4 5 6 10 20 30 40 50 60 | i 3: 33 77 121
ReduceSum; axes=2 0; keepdims=1 | i 2 3 2: 1 2 3 4 5 6 10 20 30 40 50 60 | i 1 3 1: 33 77 121
ReduceSum; axes=1 2 | i 2 3 2: 1 2 3 4 5 6 10 20 30 40 50 60 | i 2 1 1: 21 210
ReduceSum; axes= | i 2 2: 1 2 3 4 | i 2 2: 1 2 3 4
ReduceSum; axes=; keepdims=0 | i 2 2: 1 2 3 4 | i 2 2: 1 2 3 4
ReduceSum | i: 7 | i: 7
ReduceSum; axes= | i: 7 | i: 7
ReduceSum; axes=0 2 4; keepdims=0 | i 1 2 1 2 1 1: 1 2 3 4 | i 2 2 1: 1 2 3 4
`)
}

// Above 2^24 the next Floats are 2 apart: a 1 by itself is lost, two of them together are not.
func TestOrderOfSums(t *testing.T) {
	expectLines(t, `
ReduceSum | f 3: 16777216 1 1 | f 1: 16777216
ReduceSum | f 3: 1 1 16777216 | f 1: 16777218
ReduceSum | f 3: 1 16777216 1 | f 1: 16777216
ReduceSum | f 4: 16777216 1 1 -16777216 | f 1: 0
ReduceSum; axes=0 | f 3 2: 16777216 1 1 1 1 16777216 | f 1 2: 16777216 16777218
ReduceSum; axes=1 | f 2 3: 16777216 1 1 1 1 16777216 | f 2 1: 16777216 16777218
ReduceSum; axes=0 2; keepdims=0 | f 2 2 2: 1 16777216 1 1 1 0 16777216 0 | f 2: 16777216 16777218
ReduceSum; axes=2 0; keepdims=0 | f 2 2 2: 1 16777216 1 1 1 0 16777216 0 | f 2: 16777216 16777218
ReduceSum; axes=-1 -3; keepdims=0 | f 2 2 2: 1 16777216 1 1 1 0 16777216 0 | f 2: 16777216 16777218
ReduceSum; axes=1 0 | f 2 2: 1 16777216 1 0 | f 1 1: 16777216
ReduceSum; axes=0 1 | f 2 2: 1 1 16777216 0 | f 1 1: 16777218
ReduceSum | f 2 2: 1 16777216 1 0 | f 1 1: 16777216
ReduceSum | f 2 2: 1 1 16777216 0 | f 1 1: 16777218
ReduceMean | f 4: 16777216 1 1 2 | f 1: 4194304.5
ReduceMean | f 4: 1 1 2 16777216 | f 1: 4194305
ReduceMean; axes=0 2; keepdims=0 | f 2 2 2: 1 16777216 1 1 1 1 16777216 0 | f 2: 4194304 4194304.5
`)
}

func TestSumsOfWhatIsNotOrdinary(t *testing.T) {
	expectLines(t, `
ReduceSum | f 1: -0 | f 1: 0
ReduceSum | f: -0 | f: 0
ReduceSum | f 2: -0 -0 | f 1: 0
ReduceSum; axes= | f 3: -0 1 nan | f 3: 0 1 nan
ReduceSum; axes=0 | f 1 2: -0 -1 | f 1 2: 0 -1
ReduceSum | f 2: inf 1 | f 1: inf
ReduceSum | f 2: inf -inf | f 1: nan
ReduceSum | f 2: 1 nan | f 1: nan
ReduceSum | f 3: nan 1 2 | f 1: nan
ReduceSum | f 3: 3e38 3e38 -3e38 | f 1: inf
ReduceSum | f 3: 3e38 -3e38 3e38 | f 1: 3e38
ReduceSum | f 2: 1e-45 1e-45 | f 1: 3e-45
ReduceSum | i 2: 2147483647 1 | i 1: -2147483648
ReduceSum | i 3: -2147483648 -1 2 | i 1: -2147483647
ReduceSum | l 2: 9223372036854775807 1 | l 1: -9223372036854775808
ReduceSum | l 2: 2147483647 1 | l 1: 2147483648
`)
}

func TestReduceMean(t *testing.T) {
	expectLines(t, `
ReduceMean | f 2: 1 2 | f 1: 1.5
ReduceMean | f 1: 7 | f 1: 7
ReduceMean | f: 7 | f: 7
ReduceMean | f 1: -0 | f 1: 0
ReduceMean | f 3: 1 1 2 | f 1: 1.3333334
ReduceMean | f 3: 1 0 0 | f 1: 0.33333334
ReduceMean; axes=1 | f 2 3: 1 2 3 4 5 9 | f 2 1: 2 6
ReduceMean; axes=0; keepdims=0 | f 2 3: 1 2 3 4 5 9 | f 3: 2.5 3.5 6
ReduceMean; axes=0 2; keepdims=0 | f 2 2 2: 1 2 3 4 5 6 7 8 | f 2: 3.5 5.5
ReduceMean; axes=-1; keepdims=1 | f 2 2: 1 2 3 5 | f 2 1: 1.5 4
ReduceMean; axes= | f 2: 5 -0 | f 2: 5 0
ReduceMean | f 2: 3e38 3e38 | f 1: inf
ReduceMean | f 2: inf -inf | f 1: nan
ReduceMean | f 2: nan 1 | f 1: nan
ReduceMean | i 2: 1 2 | graph
ReduceMean | l 2: 1 2 | graph
`)
}

func TestReduceMax(t *testing.T) {
	expectLines(t, `
ReduceMax | i 2 2: 1 2 4 3 | i 1 1: 4
ReduceMax | l 2: -9223372036854775808 9223372036854775807 | l 1: 9223372036854775807
ReduceMax | f 3: -3 -1 -2 | f 1: -1
ReduceMax | i 2: -5 -7 | i 1: -5
ReduceMax; axes=0 | i 2 3: 1 5 3 4 2 6 | i 1 3: 4 5 6
ReduceMax; axes=1; keepdims=0 | i 2 3: 1 5 3 4 2 6 | i 2: 5 6
ReduceMax; axes=-1; keepdims=1 | i 2 3: 1 5 3 4 2 6 | i 2 1: 5 6
ReduceMax; axes=0 2; keepdims=0 | i 2 2 2: 1 2 3 4 8 7 6 5 | i 2: 8 6
ReduceMax; axes= | f 3: -0 nan 1 | f 3: -0 nan 1
ReduceMax | f: -0 | f: -0
ReduceMax | f 1: -0 | f 1: -0
ReduceMax | f 2: -0 0 | f 1: 0
ReduceMax | f 2: 0 -0 | f 1: 0
ReduceMax | f 2: -0 -0 | f 1: -0
ReduceMax | f 3: nan 1 2 | f 1: nan
ReduceMax | f 3: 1 nan 2 | f 1: nan
ReduceMax | f 3: 1 2 nan | f 1: nan
ReduceMax | f 2: nan inf | f 1: nan
ReduceMax | f 1: nan | f 1: nan
ReduceMax | f 3: -inf 1 inf | f 1: inf
ReduceMax | f 1: -inf | f 1: -inf
ReduceMax | f 2 2: 1 nan 3 4 | f 1 1: nan
ReduceMax; axes=1 | f 2 2: 1 nan 3 4 | f 2 1: nan 4
ReduceMax | b 2: 1 0 | graph
`)
}

func TestArgMax(t *testing.T) {
	expectLines(t, `
ArgMax | f 3: 1 3 2 | l 1: 1
ArgMax | l 3: 4294967296 -1 4294967297 | l 1: 2
ArgMax | i 2 3: 1 5 3 4 2 6 | l 1 3: 1 0 1
ArgMax; axis=0 | i 2 3: 1 5 3 4 2 6 | l 1 3: 1 0 1
ArgMax; axis=1 | i 2 3: 1 5 3 4 2 6 | l 2 1: 1 2
ArgMax; axis=-1; keepdims=0 | i 2 3: 1 5 3 4 2 6 | l 2: 1 2
ArgMax; axis=-2; keepdims=1 | i 2 3: 1 5 3 4 2 6 | l 1 3: 1 0 1
ArgMax; keepdims=0 | i 2: 1 2 | l: 1
ArgMax; axis=1; keepdims=0 | i 2 2 2: 1 2 3 4 8 7 6 5 | l 2 2: 1 1 0 0
ArgMax | i 1: 7 | l 1: 0
ArgMax | i 5: 1 3 2 3 3 | l 1: 1
ArgMax | i 3: 2 2 2 | l 1: 0
ArgMax | i 3: -3 -2 -1 | l 1: 2
ArgMax | f 2: -0 0 | l 1: 0
ArgMax | f 2: 0 -0 | l 1: 0
ArgMax | f 3: -1 -0 0 | l 1: 1
ArgMax | f 3: nan 1 2 | l 1: 0
ArgMax | f 3: 1 nan 2 | l 1: 2
ArgMax | f 4: 1 nan 0 2 | l 1: 3
ArgMax | f 3: 2 nan 1 | l 1: 0
ArgMax | f 3: 1 2 nan | l 1: 1
ArgMax | f 2: nan inf | l 1: 0
ArgMax | f 3: -inf inf inf | l 1: 1
ArgMax; axis=1 | f 2 3: nan 1 2 0 nan 3 | l 2 1: 0 2
ArgMax | f: 1 | graph
ArgMax | b 2: 1 0 | graph
`)
}

func TestSoftmax(t *testing.T) {
	expectLines(t, `
Softmax | f 2: 0 1 | f 2: 0.268941432 0.731058598
Softmax | f 3: 1 2 3 | f 3: 0.0900305733 0.244728476 0.665240943
Softmax | f 3: 88 89 90 | f 3: 0.0900305733 0.244728476 0.665240943
Softmax | f 2: -1 -2 | f 2: 0.731058598 0.268941432
Softmax | f 1: 5 | f 1: 1
Softmax | f 2 2: 0 1 1 0 | f 2 2: 0.268941432 0.731058598 0.731058598 0.268941432
Softmax; axis=1 | f 2 2: 0 1 0 1 | f 2 2: 0.268941432 0.731058598 0.268941432 0.731058598
Softmax; axis=-1 | f 2 2: 0 1 0 1 | f 2 2: 0.268941432 0.731058598 0.268941432 0.731058598
Softmax; axis=0 | f 2 2: 0 1 0 1 | f 2 2: 0.5 0.5 0.5 0.5
Softmax; axis=-2 | f 2 2: 0 7 1 6 | f 2 2: 0.268941432 0.731058598 0.731058598 0.268941432
Softmax; axis=1 | f 1 2 2: 0 7 1 6 | f 1 2 2: 0.268941432 0.731058598 0.731058598 0.268941432
Softmax; axis=0 | f 1 2: 3 nan | f 1 2: 1 nan
Softmax | f 3: 0 -16.8 -16.8 | f 3: 1 5.0565351e-08 5.0565351e-08
Softmax | f 3: -16.8 -16.8 0 | f 3: 5.05653439e-08 5.05653439e-08 0.999999881
Softmax | f 2: 3e38 -3e38 | f 2: 1 0
Softmax | f 2: -0 0 | f 2: 0.5 0.5
Softmax | f 2: inf 0 | f 2: nan nan
Softmax | f 2: inf inf | f 2: nan nan
Softmax | f 2: -inf 0 | f 2: 0 1
Softmax | f 2: -inf -inf | f 2: nan nan
Softmax | f 1: -inf | f 1: nan
Softmax | f 3: 0 nan 0 | f 3: nan nan nan
Softmax | f 2 2: nan 0 0 0 | f 2 2: nan nan 0.5 0.5
Softmax | f: 1 | graph
Softmax | i 2: 1 2 | graph
Softmax; axis=1 | f 2: 1 2 | graph
Softmax; axis=-2 | f 2: 1 2 | graph
`)
}

// The inputs are x, scale, bias, mean and var.
func TestBatchNormalization(t *testing.T) {
	expectLines(t, `
BatchNormalization; epsilon=0 | f 1 2: 3 4, f 2: 2 1, f 2: 1 0, f 2: 1 2, f 2: 4 1 | f 1 2: 3 2
BatchNormalization | f 1 1: 1, f 1: 1, f 1: 0, f 1: 0, f 1: 0 | f 1 1: 316.227783
BatchNormalization | f 1 1: 1, f 1: 1, f 1: 0, f 1: 0, f 1: 1 | f 1 1: 0.999994993
BatchNormalization | f 2 1: 3 5, f 1: 2, f 1: 1, f 1: 1, f 1: 3 | f 2 1: 3.30939722 5.61879444
BatchNormalization; epsilon=3 | f 1 1: 5, f 1: 8, f 1: 0.5, f 1: 1, f 1: 1 | f 1 1: 16.5
BatchNormalization; epsilon=0 | f 1 1: 1, f 1: 1, f 1: 0, f 1: 0, f 1: 0 | f 1 1: inf
BatchNormalization; epsilon=0 | f 1 1: 0, f 1: 1, f 1: 0, f 1: 0, f 1: 0 | f 1 1: nan
BatchNormalization; epsilon=-1 | f 1 1: 1, f 1: 1, f 1: 0, f 1: 0, f 1: 0 | f 1 1: nan
BatchNormalization; epsilon=nan | f 1 1: 1, f 1: 1, f 1: 0, f 1: 0, f 1: 1 | f 1 1: nan
BatchNormalization; epsilon=0 | f 1 2: inf nan, f 2: 1 1, f 2: 0 0, f 2: 0 0, f 2: 1 1 | f 1 2: inf nan
BatchNormalization; epsilon=0 | f 1 1: -0, f 1: 1, f 1: -0, f 1: 0, f 1: 1 | f 1 1: -0
BatchNormalization; epsilon=0 | f 1 1: 0, f 1: inf, f 1: 0, f 1: 0, f 1: 1 | f 1 1: nan
BatchNormalization; epsilon=0 | f 2 2: 1 2 3 4, f 2: 1 10, f 2: 0 5, f 2: 1 2, f 2: 1 4 | f 2 2: 0 5 2 15
BatchNormalization; epsilon=0 | f 1 2 3: 1 2 3 4 5 6, f 2: 1 10, f 2: 0 5, f 2: 1 2, f 2: 1 4 | f 1 2 3: 0 1 2 15 20 25
BatchNormalization; epsilon=0 | f 2 2 1 2: 1 2 3 4 5 6 7 8, f 2: 1 10, f 2: 0 5, f 2: 1 2, f 2: 1 4 | f 2 2 1 2: 0 1 10 15 4 5 30 35
BatchNormalization; epsilon=0 | f 1 2 1 1 1 2: 1 2 3 4, f 2: 1 10, f 2: 0 5, f 2: 1 2, f 2: 1 4 | f 1 2 1 1 1 2: 0 1 10 15
BatchNormalization; epsilon=0 | f 1 1: 3e38, f 1: 0, f 1: 1, f 1: -3e38, f 1: 1 | f 1 1: nan
BatchNormalization; epsilon=0 | f 1 1: 1.000244140625, f 1: 1.000244140625, f 1: -1.00048828125, f 1: 0, f 1: 1 | f 1 1: 0
BatchNormalization | f 2: 1 2, f 2: 1 2, f 2: 1 2, f 2: 1 2, f 2: 1 2 | graph
BatchNormalization | f 2 1: 1 2, f 2: 1 2, f 2: 1 2, f 2: 1 2, f 2: 1 2 | graph
BatchNormalization | f 1 2: 1 2, f 2: 1 2, f 2: 1 2, f 2: 1 2, f 1: 1 | graph
BatchNormalization | f 1 2: 1 2, f 2: 1 2, f 1 2: 1 2, f 2: 1 2, f 2: 1 1 | graph
BatchNormalization | i 1 1: 1, i 1: 1, i 1: 1, i 1: 1, i 1: 1 | graph
BatchNormalization | f 1 1: 1, f 1: 1, f 1: 1, f 1: 1, i 1: 1 | graph
BatchNormalization | f 1 1: 1, f 1: 1, f 1: 1, f 1: 1 | graph
`)
}

func TestAxesThatAreNone(t *testing.T) {
	expectLines(t, `
ReduceSum; axes=2 | i 1 1: 1 | graph
ReduceSum; axes=-3 | i 1 1: 1 | graph
ReduceSum; axes=0 0 | i 1 1: 1 | graph
ReduceSum; axes=0 -2 | i 1 1: 1 | graph
ReduceSum; axes=0 | i: 1 | graph
ReduceMean; axes=1 | f 1: 1 | graph
ReduceMax; axes=1 | f 1: 1 | graph
ReduceSum; keepdims=2 | i 1: 1 | graph
ReduceMean; keepdims=-1 | f 1: 1 | graph
ReduceMax; keepdims=2 | i 1: 1 | graph
ArgMax; axis=1 | i 1: 1 | graph
ArgMax; axis=-2 | i 1: 1 | graph
ArgMax; keepdims=2 | i 1: 1 | graph
ReduceSum | b 1: 1 | graph
`)
}

// What follows in a node is not done here, though it must be for the type.
func TestThenIsNotDone(t *testing.T) {
	expectLines(t, `
ReduceSum; then=Neg | i 2: 1 2 | i 1: 3
ReduceMean; then=Neg,Exp | f 2: 1 2 | f 1: 1.5
ReduceMax; then=Relu | f 2: -1 -2 | f 1: -1
ArgMax; then=Neg | f 2: 1 2 | l 1: 1
Softmax; then=Neg | f 2: 0 0 | f 2: 0.5 0.5
BatchNormalization; epsilon=0; then=Neg | f 1 1: 3, f 1: 1, f 1: 0, f 1: 1, f 1: 1 | f 1 1: 2
ArgMax; then=Relu | f 2: 1 2 | graph
ReduceSum; then=Sqrt | i 2: 1 2 | graph
ReduceSum; then=Add | i 2: 1 2 | graph
`)
}

func TestWrongInputs(t *testing.T) {
	expectLines(t, `
ReduceSum | i 2: 1 | arg
ReduceSum | i 2: 1 2 3 | arg
ReduceSum | i 0: | arg
ReduceSum | 3: 1 | arg
ReduceSum | i: 2147483648 | arg
ReduceMax | b: 2 | arg
ArgMax | i 1 1 1 1 1 1 1: 1 | arg
Softmax | f -1: 1 | arg
BatchNormalization | f 1 1: 1, f 1: 1, f 1: 1, f 1: 1, f 1: | arg
ReduceSum | i: 1, i: 1 | graph
Softmax | | graph
ReduceSum; axis=0 | i 1: 1 | unsupported
ArgMax; axes=0 | i 1: 1 | unsupported
Softmax; keepdims=0 | f 1: 1 | unsupported
What | i 1: 1 | unsupported
ReduceMin | i 1: 1 | unsupported
`)
}

func TestOperatorsOfOtherLayers(t *testing.T) {
	expectLines(t, spell.Others("ReduceSum ReduceMax ReduceMean ArgMax Softmax BatchNormalization"))
}

// R2: a tensor that may not be, then infer's error, then another layer's operator.
func TestTheFirstError(t *testing.T) {
	expectLines(t, `
What | b: 2 | arg
ReduceMean | i 2: 1 | arg
ReduceSum; axes=5 | i 2: 1 | arg
ReduceSum; what=1 | i 2: 1 | arg
BatchNormalization | i 1: 1, f 1: 1, f 1: 1, f 1: 1, b 1: 2 | arg
Neg | i 2: 1 | arg
Neg | b: 1 | graph
Add | i: 1, l: 1 | graph
MatMul | f 1: 1, f 1: 1 | graph
Neg; then=Not | i: 1 | graph
Cast; to=2 | i: 1 | unsupported
Reshape; shape=1 1 1 1 1 1 1 | i: 1 | limit
`)
}
