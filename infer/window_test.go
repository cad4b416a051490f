package infer

import "testing"

func TestConv(t *testing.T) {
	expectLines(t, `
Conv | f 1 1 3 3, f 1 1 1 1 | f 1 1 3 3
Conv | f 2 3 5 7, f 4 3 2 3 | f 2 4 4 5
Conv | f 2 3 5 7, f 4 3 2 3, f 4 | f 2 4 4 5
Conv | f 2 3 5 7, f 4 3 2 3, f 1 | graph
Conv | f 2 3 5 7, f 4 3 2 3, f 3 | graph
Conv | f 2 3 5 7, f 4 3 2 3, f | graph
Conv | f 2 3 5 7, f 4 3 2 3, f 4 1 | graph
Conv | f 2 3 5 7, f 4 3 2 3, f 1 4 | graph
Conv | f 2 3 5 7, f 4 3 5 7 | f 2 4 1 1
Conv | f 2 3 5 7, f 4 3 6 7 | graph
Conv | f 2 3 5 7, f 4 3 5 8 | graph
Conv; pads=1 0 0 1 | f 2 3 5 7, f 4 3 6 8 | f 2 4 1 1
Conv; pads=1 2 3 4 | f 1 1 5 5, f 1 1 2 2 | f 1 1 8 10
Conv; strides=2 3 | f 1 1 5 5, f 1 1 1 1 | f 1 1 3 2
Conv; strides=2 3 | f 1 1 6 6, f 1 1 1 1 | f 1 1 3 2
Conv; strides=2 3 | f 1 1 7 7, f 1 1 1 1 | f 1 1 4 3
Conv; dilations=2 3 | f 1 1 9 9, f 1 1 3 3 | f 1 1 5 3
Conv; dilations=4 4 | f 1 1 9 9, f 1 1 3 3 | f 1 1 1 1
Conv; dilations=5 4 | f 1 1 9 9, f 1 1 3 3 | graph
Conv; dilations=4 5 | f 1 1 9 9, f 1 1 3 3 | graph
Conv; dilations=100 100 | f 1 1 9 9, f 1 1 1 1 | f 1 1 9 9
Conv; strides=100 100 | f 1 1 9 9, f 1 1 1 1 | f 1 1 1 1
Conv; strides=100 1 | f 1 1 101 1, f 1 1 1 1 | f 1 1 2 1
Conv; pads=100 100 100 100 | f 1 1 1 1, f 1 1 1 1 | f 1 1 201 201
Conv; strides=2 3; dilations=2 1; pads=1 2 3 0 | f 1 1 8 9, f 1 1 2 3 | f 1 1 5 3
Conv; strides=1 | f 1 1 9 9, f 1 1 1 1 | graph
Conv; strides=1 1 1 | f 1 1 9 9, f 1 1 1 1 | graph
Conv; strides= | f 1 1 9 9, f 1 1 1 1 | graph
Conv; strides=0 1 | f 1 1 9 9, f 1 1 1 1 | graph
Conv; strides=1 0 | f 1 1 9 9, f 1 1 1 1 | graph
Conv; strides=1 -1 | f 1 1 9 9, f 1 1 1 1 | graph
Conv; strides=101 1 | f 1 1 9 9, f 1 1 1 1 | graph
Conv; strides=1 101 | f 1 1 9 9, f 1 1 1 1 | graph
Conv; dilations=1 | f 1 1 9 9, f 1 1 1 1 | graph
Conv; dilations=1 1 1 | f 1 1 9 9, f 1 1 1 1 | graph
Conv; dilations=0 1 | f 1 1 9 9, f 1 1 1 1 | graph
Conv; dilations=1 0 | f 1 1 9 9, f 1 1 1 1 | graph
Conv; dilations=101 1 | f 1 1 9 9, f 1 1 1 1 | graph
Conv; dilations=1 101 | f 1 1 9 9, f 1 1 1 1 | graph
Conv; pads=0 0 | f 1 1 9 9, f 1 1 1 1 | graph
Conv; pads=0 0 0 0 0 | f 1 1 9 9, f 1 1 1 1 | graph
Conv; pads= | f 1 1 9 9, f 1 1 1 1 | graph
Conv; pads=-1 0 0 0 | f 1 1 9 9, f 1 1 1 1 | graph
Conv; pads=0 0 0 -1 | f 1 1 9 9, f 1 1 1 1 | graph
Conv; pads=101 0 0 0 | f 1 1 9 9, f 1 1 1 1 | graph
Conv; pads=0 0 0 101 | f 1 1 9 9, f 1 1 1 1 | graph
Conv; pads=9223372036854775807 0 1 0 | f 1 1 9 9, f 1 1 1 1 | graph
Conv; group=1 | f 1 4 3 3, f 6 4 1 1 | f 1 6 3 3
Conv; group=2 | f 1 4 3 3, f 6 2 1 1 | f 1 6 3 3
Conv; group=4 | f 1 4 3 3, f 8 1 1 1 | f 1 8 3 3
Conv; group=4 | f 1 4 3 3, f 6 1 1 1 | graph
Conv; group=3 | f 1 4 3 3, f 6 1 1 1 | graph
Conv; group=2 | f 1 4 3 3, f 6 4 1 1 | graph
Conv; group=2 | f 1 4 3 3, f 6 1 1 1 | graph
Conv; group=2 | f 1 5 3 3, f 6 2 1 1 | graph
Conv; group=8 | f 1 4 3 3, f 8 1 1 1 | graph
Conv; group=0 | f 1 4 3 3, f 6 4 1 1 | graph
Conv; group=-1 | f 1 4 3 3, f 6 4 1 1 | graph
Conv; group=-2 | f 1 4 3 3, f 6 2 1 1 | graph
Conv; group=-9223372036854775808 | f 1 4 3 3, f 6 4 1 1 | graph
Conv; group=4294967298 | f 1 4 3 3, f 6 2 1 1 | graph
Conv; group=2; pads=1 1 1 1; strides=2 2; dilations=2 2 | f 3 4 9 9, f 6 2 3 3, f 6 | f 3 6 4 4
Conv | f 4 3 3, f 6 4 1 1 | graph
Conv | f 1 4 3 3, f 4 1 1 | graph
Conv | f 1 4 3 3 1, f 6 4 1 1 | graph
Conv | f 1 4 3 3, f 6 4 1 1 1 | graph
Conv | f, f | graph
Conv | f 1 1 256 256, f 2 1 1 1 | limit
Conv | f 1 1 256 256, f 1 1 1 1 | f 1 1 256 256
Conv; pads=1 0 0 0 | f 1 1 256 256, f 1 1 1 1 | limit
Conv; dilations=100 1 | f 1 1 1 1, f 1 1 65536 1 | graph
`)
}

func TestPools(t *testing.T) {
	for _, op := range []string{"MaxPool", "AveragePool"} {
		for _, line := range []string{
			"; kernel_shape=2 2 | f 1 1 4 4 | f 1 1 3 3",
			"; kernel_shape=2 3; strides=2 1 | f 2 3 5 7 | f 2 3 2 5",
			"; kernel_shape=1 1 | f 2 3 5 7 | f 2 3 5 7",
			"; kernel_shape=5 7 | f 2 3 5 7 | f 2 3 1 1",
			"; kernel_shape=6 7 | f 2 3 5 7 | graph",
			"; kernel_shape=5 8 | f 2 3 5 7 | graph",
			"; kernel_shape=5 8; pads=0 1 0 0 | f 2 3 5 7 | f 2 3 1 1",
			"; kernel_shape=2 2; pads=1 1 1 1; strides=2 2 | f 1 1 4 4 | f 1 1 3 3",
			"; kernel_shape=2 4; pads=1 3 0 2 | f 1 1 4 4 | f 1 1 4 6",
			"; kernel_shape=2 4; pads=2 0 0 0 | f 1 1 4 4 | graph",
			"; kernel_shape=2 4; pads=0 4 0 0 | f 1 1 4 4 | graph",
			"; kernel_shape=2 4; pads=0 0 2 0 | f 1 1 4 4 | graph",
			"; kernel_shape=2 4; pads=0 0 0 4 | f 1 1 4 4 | graph",
			"; kernel_shape=1 1; pads=1 0 0 0 | f 1 1 4 4 | graph",
			"; kernel_shape=4 2; pads=3 1 3 1 | f 1 1 4 4 | f 1 1 7 5",
			"; kernel_shape=2 2; pads=-1 0 0 0 | f 1 1 4 4 | graph",
			"; kernel_shape=2 2; pads=0 0 | f 1 1 4 4 | graph",
			"; kernel_shape=100 100; pads=99 99 99 99 | f 1 1 1 1 | f 1 1 100 100",
			"; kernel_shape=101 1; pads=100 0 100 0 | f 1 1 1 1 | graph",
			"; kernel_shape=1 101; pads=0 100 0 100 | f 1 1 1 1 | graph",
			"; kernel_shape=0 1 | f 1 1 4 4 | graph",
			"; kernel_shape=1 0 | f 1 1 4 4 | graph",
			"; kernel_shape=-1 1 | f 1 1 4 4 | graph",
			"; kernel_shape=1 | f 1 1 4 4 | graph",
			"; kernel_shape= | f 1 1 4 4 | graph",
			"; kernel_shape=1 1 1 | f 1 1 4 4 | graph",
			"; kernel_shape=1 1; strides=0 1 | f 1 1 4 4 | graph",
			"; kernel_shape=1 1; strides=101 1 | f 1 1 4 4 | graph",
			"; kernel_shape=1 1; strides=100 100 | f 1 1 4 4 | f 1 1 1 1",
			"; kernel_shape=1 1; strides=1 | f 1 1 4 4 | graph",
			"; kernel_shape=1 1; dilations=1 1 | f 1 1 4 4 | unsupported",
			"; kernel_shape=1 1 | f 1 4 4 | graph",
			"; kernel_shape=1 1 | f 1 1 1 4 4 | graph",
			"; kernel_shape=1 1 | f | graph",
			"; kernel_shape=2 1; pads=1 0 1 0 | f 1 1 256 256 | limit",
		} {
			expectLines(t, op+line)
		}
	}
	expectLines(t, `
GlobalAveragePool | f 2 3 5 7 | f 2 3 1 1
GlobalAveragePool | f 2 3 5 | graph
GlobalAveragePool | f 2 3 5 7 1 | graph
GlobalAveragePool | f | graph
`)
}

func TestBatchNormalization(t *testing.T) {
	expectLines(t, `
BatchNormalization | f 1 2 3, f 2, f 2, f 2, f 2 | f 1 2 3
BatchNormalization; epsilon=1 | f 1 2, f 2, f 2, f 2, f 2 | f 1 2
BatchNormalization | f 2 1 1 1 1 1, f 1, f 1, f 1, f 1 | f 2 1 1 1 1 1
BatchNormalization | f 2, f 2, f 2, f 2, f 2 | graph
BatchNormalization | f, f 2, f 2, f 2, f 2 | graph
BatchNormalization | f 1 2 3, f 1, f 2, f 2, f 2 | graph
BatchNormalization | f 1 2 3, f 2, f 3, f 2, f 2 | graph
BatchNormalization | f 1 2 3, f 2, f 2, f, f 2 | graph
BatchNormalization | f 1 2 3, f 2, f 2, f 2, f 2 1 | graph
BatchNormalization | f 1 2 3, f 2, f 2, f 2, f 1 2 | graph
`)
}
