package conv

import (
	"testing"

	"mandrel/spell"
)

func expectLines(t *testing.T, lines string) {
	t.Helper()
	for _, line := range spell.Unlike(Do, lines) {
		t.Errorf("P13.1: %s", line)
	}
}

func TestExamples(t *testing.T) {
	expectLines(t, `
Conv | f 1 1 2 2: 1 2 3 4, f 1 1 2 2: 1 1 1 1 | f 1 1 1 1: 10
MaxPool; kernel_shape=2 2 | f 1 1 2 2: 1 2 3 4 | f 1 1 1 1: 4
`)
}

// Each attribute by itself, unlike in the height and in the width, over 1 to 9.
func TestConv(t *testing.T) {
	expectLines(t, `
Conv | f 1 1 3 3: 1 2 3 4 5 6 7 8 9, f 1 1 2 2: 1 2 3 4 | f 1 1 2 2: 37 47 67 77
Conv; strides=1 1; pads=0 0 0 0; dilations=1 1; group=1 | f 1 1 3 3: 1 2 3 4 5 6 7 8 9, f 1 1 2 2: 1 2 3 4 | f 1 1 2 2: 37 47 67 77
Conv | f 1 1 2 3: 1 2 3 4 5 6, f 1 1 1 2: 1 10 | f 1 1 2 2: 21 32 54 65
Conv | f 1 1 3 2: 1 2 3 4 5 6, f 1 1 2 1: 1 10 | f 1 1 2 2: 31 42 53 64
Conv | f 1 1 1 1: 3, f 1 1 1 1: 4 | f 1 1 1 1: 12
Conv; strides=2 1 | f 1 1 3 3: 1 2 3 4 5 6 7 8 9, f 1 1 2 2: 1 2 3 4 | f 1 1 1 2: 37 47
Conv; strides=1 2 | f 1 1 3 3: 1 2 3 4 5 6 7 8 9, f 1 1 2 2: 1 2 3 4 | f 1 1 2 1: 37 67
Conv; strides=2 2 | f 1 1 3 3: 1 2 3 4 5 6 7 8 9, f 1 1 1 1: 1 | f 1 1 2 2: 1 3 7 9
Conv; strides=100 100 | f 1 1 3 3: 1 2 3 4 5 6 7 8 9, f 1 1 2 2: 1 2 3 4 | f 1 1 1 1: 37
Conv; pads=1 0 0 0 | f 1 1 3 3: 1 2 3 4 5 6 7 8 9, f 1 1 2 2: 1 2 3 4 | f 1 1 3 2: 11 18 37 47 67 77
Conv; pads=0 1 0 0 | f 1 1 3 3: 1 2 3 4 5 6 7 8 9, f 1 1 2 2: 1 2 3 4 | f 1 1 2 3: 18 37 47 36 67 77
Conv; pads=0 0 1 0 | f 1 1 3 3: 1 2 3 4 5 6 7 8 9, f 1 1 2 2: 1 2 3 4 | f 1 1 3 2: 37 47 67 77 23 26
Conv; pads=0 0 0 1 | f 1 1 3 3: 1 2 3 4 5 6 7 8 9, f 1 1 2 2: 1 2 3 4 | f 1 1 2 3: 37 47 21 67 77 33
Conv; dilations=2 2 | f 1 1 3 3: 1 2 3 4 5 6 7 8 9, f 1 1 2 2: 1 2 3 4 | f 1 1 1 1: 64
Conv; dilations=2 1 | f 1 1 3 3: 1 2 3 4 5 6 7 8 9, f 1 1 2 2: 1 2 3 4 | f 1 1 1 2: 58 68
Conv; dilations=1 2 | f 1 1 3 3: 1 2 3 4 5 6 7 8 9, f 1 1 2 2: 1 2 3 4 | f 1 1 2 1: 43 73
Conv; dilations=100 100 | f 1 1 1 2: 3 4, f 1 1 1 1: 5 | f 1 1 1 2: 15 20
Conv; pads=0 1 0 1; strides=1 2; dilations=1 2 | f 1 1 1 3: 1 2 3, f 1 1 1 2: 1 10 | f 1 1 1 2: 20 2
`)
}

// Whose channels go where: of each group, and of each of a batch.
func TestChannels(t *testing.T) {
	expectLines(t, `
Conv | f 1 2 1 1: 1 2, f 2 2 1 1: 1 10 100 1000 | f 1 2 1 1: 21 2100
Conv | f 1 2 1 2: 1 2 3 4, f 1 2 1 2: 1 10 100 1000 | f 1 1 1 1: 4321
Conv | f 1 1 1 2: 1 2, f 3 1 1 1: 1 10 100 | f 1 3 1 2: 1 2 10 20 100 200
Conv; group=2 | f 1 2 1 2: 1 2 3 4, f 2 1 1 1: 10 100 | f 1 2 1 2: 10 20 300 400
Conv; group=2 | f 1 2 1 1: 2 3, f 4 1 1 1: 1 10 100 1000 | f 1 4 1 1: 2 20 300 3000
Conv; group=2 | f 1 4 1 1: 1 2 3 4, f 2 2 1 1: 1 10 100 1000 | f 1 2 1 1: 21 4300
Conv; group=3 | f 1 3 1 1: 1 2 3, f 3 1 1 1: 1 10 100 | f 1 3 1 1: 1 20 300
Conv | f 2 1 1 2: 1 2 3 4, f 1 1 1 2: 1 10 | f 2 1 1 1: 21 43
Conv | f 2 2 1 1: 1 2 3 4, f 2 2 1 1: 1 10 100 1000 | f 2 2 1 1: 21 2100 43 4300
Conv; group=2 | f 2 2 1 1: 1 2 3 4, f 2 1 1 1: 1 10 | f 2 2 1 1: 1 20 3 40
Conv | f 1 1 1 2: 1 2, f 2 1 1 1: 1 10, f 2: 100 200 | f 1 2 1 2: 101 102 210 220
Conv | f 2 1 1 1: 1 2, f 2 1 1 1: 1 10, f 2: 100 200 | f 2 2 1 1: 101 210 102 220
Conv; group=2 | f 1 2 1 1: 1 2, f 2 1 1 1: 1 10, f 2: 100 200 | f 1 2 1 1: 101 220
`)
}

// A place in a pad does not count: it is no 0, which an infinity would make the NaN of.
func TestWindowsInThePads(t *testing.T) {
	expectLines(t, `
Conv; pads=0 1 0 0 | f 1 1 1 1: 1, f 1 1 1 2: inf 2 | f 1 1 1 1: 2
Conv; pads=0 0 0 1 | f 1 1 1 1: 1, f 1 1 1 2: 2 nan | f 1 1 1 1: 2
Conv; pads=1 0 0 0 | f 1 1 1 1: 1, f 1 1 2 1: nan 2 | f 1 1 1 1: 2
Conv; pads=0 0 1 0 | f 1 1 1 1: 1, f 1 1 2 1: 2 -inf | f 1 1 1 1: 2
Conv; pads=1 1 1 1 | f 1 1 1 1: 1, f 1 1 3 3: nan nan nan nan 5 nan nan nan nan | f 1 1 1 1: 5
Conv; pads=1 1 1 1 | f 1 1 1 1: 5, f 1 1 1 1: nan | f 1 1 3 3: 0 0 0 0 nan 0 0 0 0
Conv; pads=1 1 1 1 | f 1 1 1 1: 5, f 1 1 1 1: 2, f 1: 3 | f 1 1 3 3: 3 3 3 3 13 3 3 3 3
Conv; pads=1 0 0 0 | f 1 1 1 1: 5, f 1 1 1 1: 2, f 1: -0 | f 1 1 2 1: 0 10
Conv; pads=0 3 0 0 | f 1 1 1 1: 1, f 1 1 1 2: 1 10 | f 1 1 1 3: 0 0 10
Conv; pads=0 0 0 3 | f 1 1 1 1: 1, f 1 1 1 2: 1 10 | f 1 1 1 3: 1 0 0
Conv; pads=100 100 100 100; strides=100 100 | f 1 1 1 1: 7, f 1 1 1 1: 2 | f 1 1 3 3: 0 0 0 0 14 0 0 0 0
Conv; pads=0 1 0 1; dilations=1 2 | f 1 1 1 1: 1, f 1 1 1 2: 1 10 | f 1 1 1 1: 0
Conv; pads=0 1 0 1; dilations=1 2 | f 1 1 1 2: 1 2, f 1 1 1 2: 1 10 | f 1 1 1 2: 20 1
`)
}

// 16777216 and 1 is 16777216: sums tell their order.
func TestOrderOfSums(t *testing.T) {
	expectLines(t, `
Conv | f 1 1 1 3: 16777216 1 1, f 1 1 1 3: 1 1 1 | f 1 1 1 1: 16777216
Conv | f 1 1 1 3: 1 1 16777216, f 1 1 1 3: 1 1 1 | f 1 1 1 1: 16777218
Conv | f 1 1 3 1: 16777216 1 1, f 1 1 3 1: 1 1 1 | f 1 1 1 1: 16777216
Conv | f 1 1 3 1: 1 1 16777216, f 1 1 3 1: 1 1 1 | f 1 1 1 1: 16777218
Conv | f 1 1 2 2: 16777216 1 -16777216 1, f 1 1 2 2: 1 1 1 1 | f 1 1 1 1: 1
Conv | f 1 1 2 2: 16777216 -16777216 1 1, f 1 1 2 2: 1 1 1 1 | f 1 1 1 1: 2
Conv | f 1 2 1 2: 16777216 1 -16777216 1, f 1 2 1 2: 1 1 1 1 | f 1 1 1 1: 1
Conv | f 1 2 1 2: 16777216 -16777216 1 1, f 1 2 1 2: 1 1 1 1 | f 1 1 1 1: 2
Conv | f 1 3 1 1: 16777216 1 1, f 1 3 1 1: 1 1 1 | f 1 1 1 1: 16777216
Conv | f 1 3 1 1: 1 1 16777216, f 1 3 1 1: 1 1 1 | f 1 1 1 1: 16777218
Conv | f 1 1 1 2: 1 1, f 1 1 1 2: 1 1, f 1: 16777216 | f 1 1 1 1: 16777218
Conv | f 1 1 1 2: 16777216 1, f 1 1 1 2: 1 1, f 1: 1 | f 1 1 1 1: 16777216
Conv | f 1 1 1 2: -1.00048828125 1.000244140625, f 1 1 1 2: 1 1.000244140625 | f 1 1 1 1: 0
Conv | f 1 1 1 1: 1.000244140625, f 1 1 1 1: 1.000244140625, f 1: -1.00048828125 | f 1 1 1 1: 0
AveragePool; kernel_shape=1 3 | f 1 1 1 3: 16777216 1 1 | f 1 1 1 1: 5592405.5
AveragePool; kernel_shape=1 4 | f 1 1 1 4: 16777216 1 1 -16777216 | f 1 1 1 1: 0
AveragePool; kernel_shape=1 4 | f 1 1 1 4: 16777216 -16777216 1 1 | f 1 1 1 1: 0.5
AveragePool; kernel_shape=2 2 | f 1 1 2 2: 16777216 1 -16777216 1 | f 1 1 1 1: 0.25
AveragePool; kernel_shape=2 2 | f 1 1 2 2: 16777216 -16777216 1 1 | f 1 1 1 1: 0.5
GlobalAveragePool | f 1 1 2 2: 16777216 1 -16777216 1 | f 1 1 1 1: 0.25
GlobalAveragePool | f 1 1 2 2: 16777216 -16777216 1 1 | f 1 1 1 1: 0.5
`)
}

func TestElementsOfTheirOwnKind(t *testing.T) {
	expectLines(t, `
Conv | f 1 1 1 1: -0, f 1 1 1 1: 1 | f 1 1 1 1: 0
Conv | f 1 1 1 1: -0, f 1 1 1 1: 1, f 1: -0 | f 1 1 1 1: 0
Conv | f 1 1 1 1: inf, f 1 1 1 1: -2 | f 1 1 1 1: -inf
Conv | f 1 1 1 1: inf, f 1 1 1 1: 0 | f 1 1 1 1: nan
Conv | f 1 1 1 2: inf inf, f 1 1 1 2: 1 -1 | f 1 1 1 1: nan
Conv | f 1 1 1 1: inf, f 1 1 1 1: 1, f 1: -inf | f 1 1 1 1: nan
Conv | f 1 1 1 3: 1 nan 3, f 1 1 1 1: 2 | f 1 1 1 3: 2 nan 6
Conv | f 1 1 1 1: 3e38, f 1 1 1 1: 2 | f 1 1 1 1: inf
Conv | f 1 1 1 1: 1e-45, f 1 1 1 1: 0.5 | f 1 1 1 1: 0
MaxPool; kernel_shape=1 2 | f 1 1 1 3: nan 1 2 | f 1 1 1 2: nan 2
MaxPool; kernel_shape=1 2 | f 1 1 1 3: 1 nan inf | f 1 1 1 2: nan nan
MaxPool; kernel_shape=1 1 | f 1 1 1 3: nan -0 -inf | f 1 1 1 3: nan -0 -inf
MaxPool; kernel_shape=1 2 | f 1 1 1 3: -0 0 -0 | f 1 1 1 2: 0 0
MaxPool; kernel_shape=1 2 | f 1 1 1 3: -0 -0 -1 | f 1 1 1 2: -0 -0
MaxPool; kernel_shape=1 2 | f 1 1 1 3: -inf -inf -3 | f 1 1 1 2: -inf -3
MaxPool; kernel_shape=1 2 | f 1 1 1 3: inf -inf 3 | f 1 1 1 2: inf 3
AveragePool; kernel_shape=1 1 | f 1 1 1 4: -0 nan -inf 3 | f 1 1 1 4: 0 nan -inf 3
AveragePool; kernel_shape=1 2 | f 1 1 1 3: -0 -0 nan | f 1 1 1 2: 0 nan
AveragePool; kernel_shape=1 2 | f 1 1 1 4: 1 inf inf -inf | f 1 1 1 3: inf inf nan
AveragePool; kernel_shape=1 2 | f 1 1 1 2: 3e38 3e38 | f 1 1 1 1: inf
GlobalAveragePool | f 1 3 1 2: -0 -0 1 nan inf -inf | f 1 3 1 1: 0 nan nan
`)
}

// At the edges few places of a window count: what stands in the pads has no say.
func TestPoolsWhereFewPlacesCount(t *testing.T) {
	expectLines(t, `
MaxPool; kernel_shape=1 2; pads=0 1 0 1 | f 1 1 1 2: nan -0 | f 1 1 1 3: nan nan -0
MaxPool; kernel_shape=1 2; pads=0 1 0 1 | f 1 1 1 2: -0 -inf | f 1 1 1 3: -0 -0 -inf
MaxPool; kernel_shape=2 1; pads=1 0 1 0 | f 1 1 2 1: -0 0 | f 1 1 3 1: -0 0 0
MaxPool; kernel_shape=3 3; pads=2 2 2 2; strides=4 4 | f 1 1 3 3: -1 2 -0 4 5 6 -inf 8 nan | f 1 1 2 2: -1 -0 -inf nan
AveragePool; kernel_shape=1 2; pads=0 1 0 1 | f 1 1 1 2: nan -0 | f 1 1 1 3: nan nan 0
AveragePool; kernel_shape=1 2; pads=0 1 0 1 | f 1 1 1 2: inf -inf | f 1 1 1 3: inf nan -inf
AveragePool; kernel_shape=2 1; pads=1 0 1 0 | f 1 1 2 1: -3 1e-45 | f 1 1 3 1: -3 -1.5 1e-45
AveragePool; kernel_shape=3 3; pads=2 2 2 2; strides=4 4 | f 1 1 3 3: -1 2 -0 4 5 6 -inf 8 nan | f 1 1 2 2: -1 0 -inf nan
AveragePool; kernel_shape=3 3; pads=1 1 1 1; strides=2 2 | f 1 1 3 3: 1 2 3 4 5 6 7 8 9 | f 1 1 2 2: 3 4 6 7
AveragePool; kernel_shape=3 3; pads=1 1 1 1 | f 1 1 3 3: 1 2 3 4 5 6 7 8 9 | f 1 1 3 3: 3 3.5 4 4.5 5 5.5 6 6.5 7
`)
}

func TestMaxPool(t *testing.T) {
	expectLines(t, `
MaxPool; kernel_shape=2 2 | f 1 1 3 3: 9 2 3 4 5 6 7 8 1 | f 1 1 2 2: 9 6 8 8
MaxPool; kernel_shape=1 2 | f 1 1 2 3: 1 2 3 6 5 4 | f 1 1 2 2: 2 3 6 5
MaxPool; kernel_shape=2 1 | f 1 1 2 3: 1 5 3 6 2 4 | f 1 1 1 3: 6 5 4
MaxPool; kernel_shape=1 1; strides=2 1 | f 1 1 3 2: 1 2 3 4 5 6 | f 1 1 2 2: 1 2 5 6
MaxPool; kernel_shape=1 1; strides=1 2 | f 1 1 2 3: 1 2 3 4 5 6 | f 1 1 2 2: 1 3 4 6
MaxPool; kernel_shape=2 2; pads=1 0 0 0 | f 1 1 2 2: -1 -2 -3 -4 | f 1 1 2 1: -1 -1
MaxPool; kernel_shape=2 2; pads=0 1 0 0 | f 1 1 2 2: -1 -2 -3 -4 | f 1 1 1 2: -1 -1
MaxPool; kernel_shape=2 2; pads=0 0 1 0 | f 1 1 2 2: -1 -2 -3 -4 | f 1 1 2 1: -1 -3
MaxPool; kernel_shape=2 2; pads=0 0 0 1 | f 1 1 2 2: -1 -2 -3 -4 | f 1 1 1 2: -1 -2
MaxPool; kernel_shape=2 2; pads=1 1 1 1; strides=2 2 | f 1 1 2 2: -1 -2 -3 -4 | f 1 1 2 2: -1 -2 -3 -4
MaxPool; kernel_shape=3 3; pads=2 2 2 2 | f 1 1 1 1: -5 | f 1 1 3 3: -5 -5 -5 -5 -5 -5 -5 -5 -5
MaxPool; kernel_shape=1 2 | f 2 2 1 2: 1 2 4 3 -1 -2 0 -4 | f 2 2 1 1: 2 4 -1 0
MaxPool; kernel_shape=100 100; pads=99 99 99 99; strides=99 99 | f 1 1 1 1: 3 | f 1 1 2 2: 3 3 3 3
`)
}

// As many as count are what is divided by.
func TestAveragePool(t *testing.T) {
	expectLines(t, `
AveragePool; kernel_shape=2 2 | f 1 1 3 3: 1 2 3 4 5 6 7 8 9 | f 1 1 2 2: 3 4 6 7
AveragePool; kernel_shape=1 2 | f 1 1 2 3: 1 3 5 2 4 8 | f 1 1 2 2: 2 4 3 6
AveragePool; kernel_shape=2 1 | f 1 1 2 3: 1 5 3 6 2 5 | f 1 1 1 3: 3.5 3.5 4
AveragePool; kernel_shape=1 3 | f 1 1 1 3: 1 0 0 | f 1 1 1 1: 0.33333334
AveragePool; kernel_shape=1 2; pads=0 1 0 1 | f 1 1 1 2: 2 4 | f 1 1 1 3: 2 3 4
AveragePool; kernel_shape=2 1; pads=1 0 1 0 | f 1 1 2 1: 2 4 | f 1 1 3 1: 2 3 4
AveragePool; kernel_shape=2 2; pads=1 0 0 0 | f 1 1 2 2: 1 3 5 7 | f 1 1 2 1: 2 4
AveragePool; kernel_shape=2 2; pads=0 1 0 0 | f 1 1 2 2: 1 3 5 7 | f 1 1 1 2: 3 4
AveragePool; kernel_shape=2 2; pads=0 0 1 0 | f 1 1 2 2: 1 3 5 7 | f 1 1 2 1: 4 6
AveragePool; kernel_shape=2 2; pads=0 0 0 1 | f 1 1 2 2: 1 3 5 7 | f 1 1 1 2: 4 5
AveragePool; kernel_shape=2 2; pads=1 1 1 1; strides=2 2 | f 1 1 2 2: 1 3 5 7 | f 1 1 2 2: 1 3 5 7
AveragePool; kernel_shape=1 1; strides=2 1 | f 1 1 3 2: 1 2 3 4 5 6 | f 1 1 2 2: 1 2 5 6
AveragePool; kernel_shape=1 1; strides=1 2 | f 1 1 2 3: 1 2 3 4 5 6 | f 1 1 2 2: 1 3 4 6
AveragePool; kernel_shape=1 2 | f 2 2 1 2: 1 3 4 6 -1 -3 0 -4 | f 2 2 1 1: 2 5 -2 -2
GlobalAveragePool | f 1 1 2 2: 1 2 3 4 | f 1 1 1 1: 2.5
GlobalAveragePool | f 1 1 1 1: 7 | f 1 1 1 1: 7
GlobalAveragePool | f 1 1 1 3: 1 0 0 | f 1 1 1 1: 0.33333334
GlobalAveragePool | f 2 2 1 2: 1 3 4 6 -1 -3 0 -4 | f 2 2 1 1: 2 5 -2 -2
GlobalAveragePool | f 1 2 2 1: 1 3 4 6 | f 1 2 1 1: 2 5
`)
}

func TestTypesAndDimsThatThereAreNot(t *testing.T) {
	expectLines(t, `
Conv | i 1 1 1 1: 1, i 1 1 1 1: 1 | graph
Conv | f 1 1 1 1: 1, l 1 1 1 1: 1 | graph
Conv | f 1 1 1 1: 1, f 1 1 1 1: 1, i 1: 1 | graph
Conv | f 1 1 1: 1, f 1 1 1 1: 1 | graph
Conv | f 1 1 1 1: 1, f 1 1 1: 1 | graph
Conv | f 1 1 1 1 1: 1, f 1 1 1 1 1: 1 | graph
Conv | f 1 1 1 1: 1, f 1 1 1 1: 1, f: 1 | graph
Conv | f 1 1 1 1: 1, f 1 1 1 1: 1, f 1 1: 1 | graph
Conv | f 1 1 1 1: 1, f 1 1 1 1: 1, f 2: 1 1 | graph
Conv | f 1 2 1 1: 1 2, f 1 1 1 1: 1 | graph
Conv | f 1 1 1 1: 1, f 1 2 1 1: 1 2 | graph
Conv | f 1 1 1 1: 1, f 1 1 2 1: 1 2 | graph
Conv | f 1 1 1 1: 1, f 1 1 1 2: 1 2 | graph
Conv; group=2 | f 1 2 1 1: 1 2, f 1 1 1 1: 1 | graph
Conv; group=2 | f 1 1 1 1: 1, f 2 1 1 1: 1 2 | graph
Conv; group=2 | f 1 2 1 1: 1 2, f 2 2 1 1: 1 2 3 4 | graph
Conv; group=0 | f 1 1 1 1: 1, f 1 1 1 1: 1 | graph
Conv; group=-1 | f 1 1 1 1: 1, f 1 1 1 1: 1 | graph
Conv; strides=0 1 | f 1 1 1 1: 1, f 1 1 1 1: 1 | graph
Conv; strides=1 101 | f 1 1 1 1: 1, f 1 1 1 1: 1 | graph
Conv; strides=1 | f 1 1 1 1: 1, f 1 1 1 1: 1 | graph
Conv; dilations=1 0 | f 1 1 1 1: 1, f 1 1 1 1: 1 | graph
Conv; dilations=101 1 | f 1 1 1 1: 1, f 1 1 1 1: 1 | graph
Conv; dilations=2 1 | f 1 1 2 1: 1 2, f 1 1 2 1: 1 2 | graph
Conv; pads=0 0 0 -1 | f 1 1 1 1: 1, f 1 1 1 1: 1 | graph
Conv; pads=101 0 0 0 | f 1 1 1 1: 1, f 1 1 1 1: 1 | graph
Conv; pads=0 0 | f 1 1 1 1: 1, f 1 1 1 1: 1 | graph
Conv | f 1 1 1 1: 1 | graph
Conv | f 1 1 1 1: 1, f 1 1 1 1: 1, f 1: 1, f 1: 1 | graph
MaxPool; kernel_shape=1 1 | i 1 1 1 1: 1 | graph
MaxPool; kernel_shape=1 1 | f 1 1 1: 1 | graph
MaxPool | f 1 1 1 1: 1 | graph
MaxPool; kernel_shape=1 | f 1 1 1 1: 1 | graph
MaxPool; kernel_shape=2 1 | f 1 1 1 1: 1 | graph
MaxPool; kernel_shape=0 1 | f 1 1 1 1: 1 | graph
MaxPool; kernel_shape=101 1; pads=100 0 0 0 | f 1 1 1 1: 1 | graph
MaxPool; kernel_shape=1 1; pads=1 0 0 0 | f 1 1 1 1: 1 | graph
AveragePool; kernel_shape=2 1; pads=1 0 2 0 | f 1 1 1 1: 1 | graph
AveragePool; kernel_shape=1 1 | b 1 1 1 1: 1 | graph
GlobalAveragePool | f 1 1 1: 1 | graph
GlobalAveragePool | f 1 1 1 1 1: 1 | graph
GlobalAveragePool | l 1 1 1 1: 1 | graph
GlobalAveragePool | f 1 1 1 1: 1, f 1 1 1 1: 1 | graph
`)
}

// What follows in a node is not done here, though it must be for the type.
func TestThenIsNotDone(t *testing.T) {
	expectLines(t, `
Conv; then=Neg | f 1 1 1 1: 2, f 1 1 1 1: 3 | f 1 1 1 1: 6
MaxPool; kernel_shape=1 1; then=Relu | f 1 1 1 1: -2 | f 1 1 1 1: -2
AveragePool; kernel_shape=1 1; then=Neg,Exp | f 1 1 1 1: 2 | f 1 1 1 1: 2
GlobalAveragePool; then=Abs | f 1 1 1 1: -2 | f 1 1 1 1: -2
Conv; then=Not | f 1 1 1 1: 2, f 1 1 1 1: 3 | graph
GlobalAveragePool; then=Add | f 1 1 1 1: 2 | graph
`)
}

func TestWrongInputs(t *testing.T) {
	expectLines(t, `
Conv | f 1 1 1 1: 1, f 1 1 1 2: 1 | arg
Conv | f 1 1 1 1: 1 2, f 1 1 1 1: 1 | arg
Conv | f 1 1 1 1:, f 1 1 1 1: 1 | arg
Conv | f 1 1 0 1:, f 1 1 1 1: 1 | arg
Conv | f 1 1 1 1: 1, f 1 1 1 1: 1, b 1: 2 | arg
Conv | 3 1 1 1 1: 1, f 1 1 1 1: 1 | arg
MaxPool; kernel_shape=1 1 | f 1 1 1 1 1 1 1: 1 | arg
GlobalAveragePool | f 1 1 -1 -1: 1 | arg
Conv; kernel_shape=1 1 | f 1 1 1 1: 1, f 1 1 1 1: 1 | unsupported
MaxPool; kernel_shape=1 1; dilations=1 1 | f 1 1 1 1: 1 | unsupported
AveragePool; kernel_shape=1 1; group=1 | f 1 1 1 1: 1 | unsupported
GlobalAveragePool; kernel_shape=1 1 | f 1 1 1 1: 1 | unsupported
GlobalAveragePool; strides=1 1 | f 1 1 1 1: 1 | unsupported
GlobalMaxPool | f 1 1 1 1: 1 | unsupported
What | f 1 1 1 1: 1 | unsupported
`)
}

func TestOperatorsOfOtherLayers(t *testing.T) {
	expectLines(t, spell.Others("Conv MaxPool AveragePool GlobalAveragePool"))
}

// R2: a tensor that may not be, then infer's error, then another layer's operator.
func TestTheFirstError(t *testing.T) {
	expectLines(t, `
What | b: 2 | arg
Conv | f 1 1 1: 1, i 1 1 1 1: | arg
Conv; what=1 | f 1 1 1 1: 1, b: 2 | arg
MaxPool | f 1 1 1 1: | arg
GlobalAveragePool; then=Not | f 1 1 1 1: | arg
Add | i 2: 1, l 1: 2 | arg
Add | i: 1, l: 1 | graph
MatMul | f 1 2: 1 2, f 1 2: 1 2 | graph
Neg; then=Not | i: 1 | graph
Cast; to=2 | i: 1 | unsupported
Reshape; shape=1 1 1 1 1 1 1 | i: 1 | limit
`)
}
