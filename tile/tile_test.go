package tile

import (
	"math"
	"slices"
	"strconv"
	"strings"
	"testing"

	"mandrel/api"
	"mandrel/begin"
	"mandrel/sem"
	"mandrel/spell"
)

// expectParts holds parts against lines such as `Neg | i 3: 1 2 3 | 1 3 | -2 -3`: a node, its inputs, lo and hi, and the elements (Floats as their words) or the word of the error.
func expectParts(t *testing.T, lines string) {
	t.Helper()
	for _, line := range strings.Split(strings.TrimSpace(lines), "\n") {
		part := strings.Split(line, "|")
		in := spell.Tensors(part[1])
		ends := strings.Fields(part[2])
		lo, _ := strconv.Atoi(ends[0])
		hi, _ := strconv.Atoi(ends[1])
		n := spell.Op(part[0], len(in))
		got, e := Part(n, in, lo, hi)
		out, _ := begin.Node(n, in)
		want, wanted := elementsOf(out.Type, part[3])
		if e != wanted || !slices.Equal(got, want) {
			t.Errorf("P21.1: %s, not %d, %d", line, got, e)
		}
	}
}

// elementsOf are those of a text, or an error.
func elementsOf(typ int, text string) ([]int64, api.Errno) {
	for e := api.ErrArg; e <= api.ErrIndex; e++ {
		if spell.Word(e) == strings.TrimSpace(text) {
			return nil, e
		}
	}
	letter := map[int]string{api.Float: "f", api.Int32: "i", api.Int64: "l", api.Bool: "b"}[typ]
	return spell.Tensor(letter + ": " + text).Data, api.OK
}

func TestExample(t *testing.T) {
	expectParts(t, `
Div | i 2: 6 6, i 2: 2 0 | 0 1 | 3
Div | i 2: 6 6, i 2: 2 0 | 1 2 | divide
`)
	if got := stepsOf(4, 5, 2); got != "4:0-2 4:2-4 4:4-5" {
		t.Errorf("P21.2: %s", got)
	}
}

func TestWhereAPartLies(t *testing.T) {
	expectParts(t, `
Neg | i 5: 1 2 3 4 5 | 0 1 | -1
Neg | i 5: 1 2 3 4 5 | 0 2 | -1 -2
Neg | i 5: 1 2 3 4 5 | 2 3 | -3
Neg | i 5: 1 2 3 4 5 | 1 4 | -2 -3 -4
Neg | i 5: 1 2 3 4 5 | 3 5 | -4 -5
Neg | i 5: 1 2 3 4 5 | 4 5 | -5
Neg | i 5: 1 2 3 4 5 | 0 5 | -1 -2 -3 -4 -5
Neg | i 5: 1 2 3 4 5 | -1 1 | arg
Neg | i 5: 1 2 3 4 5 | -1 0 | arg
Neg | i 5: 1 2 3 4 5 | -1 5 | arg
Neg | i 5: 1 2 3 4 5 | 0 0 | arg
Neg | i 5: 1 2 3 4 5 | 2 2 | arg
Neg | i 5: 1 2 3 4 5 | 3 2 | arg
Neg | i 5: 1 2 3 4 5 | 0 6 | arg
Neg | i 5: 1 2 3 4 5 | 4 6 | arg
Neg | i 5: 1 2 3 4 5 | 5 5 | arg
Neg | i 5: 1 2 3 4 5 | 5 6 | arg
Neg | i 5: 1 2 3 4 5 | 6 5 | arg
Neg | i 5: 1 2 3 4 5 | 0 -1 | arg
Neg | i 5: 1 2 3 4 5 | -2 -1 | arg
Neg | i: 7 | 0 1 | -7
Neg | i: 7 | 1 1 | arg
Neg | i: 7 | 0 2 | arg
Transpose | i 2 3: 1 2 3 4 5 6 | 0 1 | 1
Transpose | i 2 3: 1 2 3 4 5 6 | 1 5 | 4 2 5 3
Transpose | i 2 3: 1 2 3 4 5 6 | 5 6 | 6
Transpose | i 2 3: 1 2 3 4 5 6 | 0 6 | 1 4 2 5 3 6
Transpose | i 2 3: 1 2 3 4 5 6 | 0 7 | arg
Transpose | i 2 3: 1 2 3 4 5 6 | -1 6 | arg
Transpose | i 2 3: 1 2 3 4 5 6 | 3 3 | arg
Transpose | i 2 3: 1 2 3 4 5 6 | 6 7 | arg
`)
	ends := []int{math.MinInt, math.MinInt + 1, -1, 0, 1, 2, 3, math.MaxInt - 1, math.MaxInt}
	for _, op := range []string{"Neg", "Flatten"} {
		for _, lo := range ends {
			for _, hi := range ends {
				got, e := Part(spell.Op(op, 1), spell.Tensors("i 2: 1 2"), lo, hi)
				well := lo >= 0 && hi <= 2 && lo < hi
				if well != (e == api.OK) || !well && (e != api.ErrArg || len(got) != 0) || well && len(got) != hi-lo {
					t.Errorf("P21.1: %s, %d to %d: %d, %d", op, lo, hi, got, e)
				}
			}
		}
	}
}

// What is spread, and how many elements come out, is what counts, not how many go in.
func TestSpreadInputs(t *testing.T) {
	expectParts(t, `
Add | i 1 3: 1 2 3, i 2 1: 10 20 | 0 6 | 11 12 13 21 22 23
Add | i 1 3: 1 2 3, i 2 1: 10 20 | 2 4 | 13 21
Add | i 1 3: 1 2 3, i 2 1: 10 20 | 5 6 | 23
Add | i 1 3: 1 2 3, i 2 1: 10 20 | 5 7 | arg
Sub | i: 10, i 2 2: 1 2 3 4 | 1 3 | 8 7
Sub | i 2 2: 1 2 3 4, i: 10 | 2 4 | -7 -6
Mul | l 2: 3 4, l 3 1 2: 1 2 3 4 5 6 | 3 6 | 16 15 24
Max | f 2 1 2: 1 2 3 4, f 2 1: 0 3.5 | 1 7 | 2 3.5 3.5 3 4 3.5
Less | i 3: 1 2 3, i 2 1: 2 3 | 1 6 | 0 0 1 1 0
And | b 2 1: 1 0, b 1 2: 1 0 | 1 3 | 0 0
Where | b 2 1: 1 0, i 2: 1 2, i: 9 | 1 3 | 2 9
Where | b: 0, i 2: 1 2, i 2 1: 8 9 | 1 4 | 8 9 9
Clip; min=0; max=2 | f 4: -1 1 3 nan | 1 4 | 1 2 nan
Cast; to=9 | f 2 2: 0 2 -0 nan | 1 4 | 1 0 1
Cast; to=7 | i 2 2: 1 2 -3 4 | 2 3 | -3
Identity | f 2 1 2: 1 2 -0 nan | 2 4 | -0 nan
`)
}

// Each layer's operators, with what follows.
func TestOtherLayers(t *testing.T) {
	expectParts(t, `
Div; then=Neg | i 3: 6 6 6, i 3: 1 2 3 | 1 3 | -3 -2
Add; then=Abs,Neg | i 3: -6 6 1, i: 1 | 0 2 | -5 -7
Relu; then=Neg,Sqrt | f 3: -4 4 9 | 0 2 | -0 nan
Less; then=Not | i 3: 1 2 3, i: 2 | 0 2 | 0 1
Cast; to=9; then=Not | i 3: 1 2 0 | 1 3 | 0 1
Concat; axis=0 | i 2: 1 2, i 2: 3 4 | 1 3 | 2 3
Concat; axis=0; then=Neg | i 2: 1 2, i 2: 3 4 | 1 3 | -2 -3
Slice; starts=1; ends=4 | i 5: 1 2 3 4 5 | 1 3 | 3 4
Slice; starts=1; ends=4 | i 5: 1 2 3 4 5 | 1 4 | arg
Gather; then=Neg | i 3: 1 2 3, i 2: 2 0 | 1 2 | -1
Pad; pads=1 1; value=7; then=Neg | f 1: 1 | 1 3 | -1 -7
Expand; shape=3 2 | i 2: 1 2 | 1 4 | 2 1 2
Reshape; shape=2 2 | i 4: 1 2 3 4 | 1 3 | 2 3
Squeeze; axes=0; then=Neg | i 1 3: 1 2 3 | 2 3 | -3
Unsqueeze; axes=0 | b 3: 1 0 1 | 0 2 | 1 0
Flatten | l 2 2: 1 2 3 4 | 3 4 | 4
Constant; value=i 3: 1 2 3 | | 1 3 | 2 3
Constant; value=i 3: 1 2 3; then=Neg | | 0 1 | -1
ReduceSum; axes=1 | i 3 2: 1 2 3 4 5 6 | 1 3 | 7 11
ReduceSum | i 3 2: 1 2 3 4 5 6 | 0 1 | 21
ReduceSum | i 3 2: 1 2 3 4 5 6 | 0 2 | arg
ReduceMax; axes=0; then=Neg | i 3 2: 1 2 3 4 5 6 | 1 2 | -6
ArgMax; axis=1 | f 3 2: 1 2 4 3 5 6 | 1 3 | 0 1
Softmax | f 2: 0 0 | 1 2 | 0.5
BatchNormalization; epsilon=0; then=Neg | f 1 2: 3 4, f 2: 1 1, f 2: 2 3, f 2: 0 0, f 2: 1 1 | 1 2 | -7
MatMul | f 2 1: 2 3, f 1 2: 5 7 | 1 3 | 14 15
Gemm; then=Relu | f 2 1: 2 -3, f 1 2: 5 7, f: 1 | 1 4 | 15 0 0
Conv | f 1 1 1 3: 1 2 3, f 1 1 1 1: 2, f 1: 1 | 1 2 | 5
MaxPool; kernel_shape=1 2; then=Neg | f 1 1 1 3: 1 2 3 | 1 2 | -3
AveragePool; kernel_shape=1 2 | f 1 1 1 3: 1 2 3 | 1 2 | 2.5
GlobalAveragePool | f 1 2 1 2: 1 2 3 4 | 1 2 | 3.5
`)
}

func TestErrorsOfPlaces(t *testing.T) {
	expectParts(t, `
Div | i 4: 1 2 3 4, i 4: 1 0 1 2 | 0 1 | 1
Div | i 4: 1 2 3 4, i 4: 1 0 1 2 | 0 2 | divide
Div | i 4: 1 2 3 4, i 4: 1 0 1 2 | 1 2 | divide
Div | i 4: 1 2 3 4, i 4: 1 0 1 2 | 1 4 | divide
Div | i 4: 1 2 3 4, i 4: 1 0 1 2 | 2 4 | 3 2
Div | i 4: 1 2 3 4, i 4: 1 0 1 2 | 0 4 | divide
Div | i 4: 1 2 3 4, i 4: 1 0 1 2 | 0 5 | arg
Div | l 2 2: 1 2 3 4, l 2: 1 0 | 2 3 | 3
Div | l 2 2: 1 2 3 4, l 2: 1 0 | 2 4 | divide
Div | l 2 2: 1 2 3 4, l 2 1: 1 0 | 0 2 | 1 2
Div | l 2 2: 1 2 3 4, l 2 1: 1 0 | 1 3 | divide
Div | l 2: 1 2, l: 0 | 1 2 | divide
Div; then=Neg,Abs | i 3: 1 2 3, i 3: 1 0 1 | 2 3 | 3
Div; then=Neg,Abs | i 3: 1 2 3, i 3: 1 0 1 | 1 3 | divide
Div; then=Identity | i 3: 1 2 3, i 3: 1 0 1 | 0 1 | 1
Div | f 3: 1 0 -1, f 3: 0 0 0 | 0 3 | inf nan -inf
Gather | i 3: 1 2 3, i 3: 0 3 1 | 0 1 | index
Gather | i 3: 1 2 3, i 3: 0 3 1 | 1 2 | index
Gather | i 3: 1 2 3, i 3: 0 3 1 | 2 3 | index
Gather | i 3: 1 2 3, i 3: 0 3 1 | 0 3 | index
Gather; then=Neg | i 3: 1 2 3, l 2: 0 -4 | 0 1 | index
Gather; axis=1 | i 2 2: 1 2 3 4, i 2: 0 2 | 2 3 | index
Gather | i 3: 1 2 3, i 3: 0 3 1 | 0 4 | arg
Gather | i 3: 1 2 3, i 3: 0 3 1 | 1 1 | arg
`)
}

// R2: the error with which a node begins, then lo and hi, then that of a place.
func TestTheFirstError(t *testing.T) {
	expectParts(t, `
What | i: 1 | 0 1 | unsupported
What | i: 1 | -1 9 | unsupported
What; then=What | i: 1, i: 2 | 1 0 | unsupported
Neg | b: 1 | 0 1 | graph
Neg | b: 1 | 0 2 | graph
Neg; then=Not | i: 1 | 1 1 | graph
Neg; axis=1 | i: 1 | 1 1 | unsupported
Add | i 2: 1 2, i 3: 1 2 3 | 0 9 | graph
Cast; to=2 | i: 1 | -1 0 | unsupported
Reshape; shape=1 1 1 1 1 1 1 | i: 1 | 1 0 | limit
Expand; shape=65537 | i: 1 | 0 1 | limit
Neg | i 2: 1 | 0 1 | arg
Neg | b: 2 | 0 1 | arg
What | b: 2 | 5 1 | arg
Div; then=Not | i: 1, i: 0 | 0 1 | graph
Div | i: 1, i: 0 | 1 1 | arg
Gather | i 1: 1, i: 5 | 0 2 | arg
Gather; axis=1 | i 1: 1, i: 5 | 0 2 | graph
`)
}

// Nothing behind a part may be reached: it has no spare room.
func TestSpareRoom(t *testing.T) {
	for _, op := range []string{"Neg", "Flatten"} {
		got, e := Part(spell.Op(op, 1), spell.Tensors("i 5: 1 2 3 4 5"), 1, 3)
		if e != api.OK || len(got) != 2 || cap(got) != 2 {
			t.Errorf("R5: %s: %d, of %d, %d", op, got, cap(got), e)
		}
	}
}

func stepsOf(node, count, size int) string {
	l, e := Steps(node, count, size)
	if e != api.OK {
		return strings.Repeat("beside ", len(l)) + spell.Word(e)
	}
	var words []string
	for _, s := range l {
		words = append(words, strconv.Itoa(s.Node)+":"+strconv.Itoa(s.Lo)+"-"+strconv.Itoa(s.Hi))
	}
	return strings.Join(words, " ")
}

func TestSteps(t *testing.T) {
	for _, c := range []struct {
		node, count, size int
		want              string
	}{
		{0, 1, 1, "0:0-1"},
		{0, 1, 2, "0:0-1"},
		{0, 1, 65536, "0:0-1"},
		{3, 4, 1, "3:0-1 3:1-2 3:2-3 3:3-4"},
		{3, 4, 2, "3:0-2 3:2-4"},
		{3, 4, 3, "3:0-3 3:3-4"},
		{3, 4, 4, "3:0-4"},
		{3, 4, 5, "3:0-4"},
		{999, 65536, 65536, "999:0-65536"},
		{5000, 65536, 65535, "5000:0-65535 5000:65535-65536"},
		{math.MaxInt, 65536, 32768, "9223372036854775807:0-32768 9223372036854775807:32768-65536"},
		{-1, 1, 1, "arg"}, {math.MinInt, 4, 2, "arg"},
		{0, 0, 1, "arg"}, {0, -1, 1, "arg"}, {0, 65537, 1, "arg"}, {0, 65537, 65536, "arg"}, {0, math.MaxInt, 1, "arg"}, {0, math.MinInt, 1, "arg"},
		{0, 1, 0, "arg"}, {0, 1, -1, "arg"}, {0, 1, 65537, "arg"}, {0, 65536, 65537, "arg"}, {0, 1, math.MaxInt, "arg"}, {0, 1, math.MinInt, "arg"},
		{-1, 0, 0, "arg"}, {0, 0, 0, "arg"},
	} {
		if got := stepsOf(c.node, c.count, c.size); got != c.want {
			t.Errorf("P21.2: %d, %d, %d: %s, not %s", c.node, c.count, c.size, got, c.want)
		}
	}
	l, e := Steps(7, api.MaxElems, 1)
	if e != api.OK || len(l) != api.MaxElems {
		t.Fatalf("P21.2: %d steps, %d", len(l), e)
	}
	for i, s := range l {
		if (s != api.Step{Node: 7, Lo: i, Hi: i + 1}) {
			t.Fatalf("P21.2: number %d: %v", i, s)
		}
	}
}

// As many elements as may be, cut where it may be.
func TestGreatParts(t *testing.T) {
	x := api.Tensor{Type: api.Int64, Dims: []int{256, 256}, Data: make([]int64, api.MaxElems)}
	for i := range x.Data {
		x.Data[i] = int64(i) - 1000
	}
	y := api.Tensor{Type: api.Int64, Dims: []int{256, 1}, Data: x.Data[1001:1257]}
	for _, op := range []string{"Div", "Concat; axis=1"} {
		n := spell.Op(op, 2)
		in := []api.Tensor{x, y}
		if n.Op == "Concat" {
			in[0] = api.Tensor{Type: x.Type, Dims: []int{256, 255}, Data: x.Data[:256*255]}
		}
		whole, _ := sem.Do(n, in)
		for _, size := range []int{1000, 4096, 65535, 65536} {
			l, _ := Steps(0, api.MaxElems, size)
			var all []int64
			for _, s := range l {
				part, e := Part(n, in, s.Lo, s.Hi)
				if e != api.OK {
					t.Fatalf("P21.3: %s: %v: %d", op, s, e)
				}
				all = append(all, part...)
			}
			if !slices.Equal(all, whole.Data) {
				t.Errorf("P21.3: %s, in parts of %d, is another one", op, size)
			}
		}
	}
}
