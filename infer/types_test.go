package infer

import (
	"math"
	"slices"
	"strings"
	"testing"

	"mandrel/api"
	"mandrel/spell"
)

func types() []int { return []int{api.Float, api.Int32, api.Int64, api.Bool} }

// letters are types by the letters of the tests' lines.
func letters(text string) []int {
	var l []int
	for _, c := range text {
		switch c {
		case 'f':
			l = append(l, api.Float)
		case 'i':
			l = append(l, api.Int32)
		case 'l':
			l = append(l, api.Int64)
		case 'b':
			l = append(l, api.Bool)
		}
	}
	return l
}

// typeRows are an operator with what it needs, dims that go together, and all the types that it takes with the one that it makes.
const typeRows = `
Identity | f 2 | f>f i>i l>l b>b
Neg | f 2 | f>f i>i l>l
Abs | f 2 | f>f i>i l>l
Not | f 2 | b>b
Relu | f 2 | f>f
Sqrt | f 2 | f>f
Floor | f 2 | f>f
Exp | f 2 | f>f
Sigmoid | f 2 | f>f
Tanh | f 2 | f>f
Add | f 2, f 2 | ff>f ii>i ll>l
Sub | f 2, f 2 | ff>f ii>i ll>l
Mul | f 2, f 2 | ff>f ii>i ll>l
Div | f 2, f 2 | ff>f ii>i ll>l
Max | f 2, f 2 | ff>f ii>i ll>l
Min | f 2, f 2 | ff>f ii>i ll>l
And | f 2, f 2 | bb>b
Or | f 2, f 2 | bb>b
Xor | f 2, f 2 | bb>b
Equal | f 2, f 2 | ff>b ii>b ll>b bb>b
Less | f 2, f 2 | ff>b ii>b ll>b
Greater | f 2, f 2 | ff>b ii>b ll>b
Where | f 2, f 2, f 2 | bff>f bii>i bll>l bbb>b
Clip | f 2 | f>f
Cast; to=1 | f 2 | f>f i>f l>f b>f
Cast; to=6 | f 2 | f>i i>i l>i b>i
Cast; to=7 | f 2 | f>l i>l l>l b>l
Cast; to=9 | f 2 | f>b i>b l>b b>b
ReduceSum | f 2 | f>f i>i l>l
ReduceMax | f 2 | f>f i>i l>l
ReduceMean | f 2 | f>f
ArgMax | f 2 | f>l i>l l>l
Reshape; shape=-1 | f 2 | f>f i>i l>l b>b
Expand; shape=2 | f 2 | f>f i>i l>l b>b
Transpose | f 2 | f>f i>i l>l b>b
Concat; axis=0 | f 2 | f>f i>i l>l b>b
Concat; axis=0 | f 2, f 2 | ff>f ii>i ll>l bb>b
Concat; axis=0 | f 2, f 2, f 2 | fff>f iii>i lll>l bbb>b
Slice; starts=; ends= | f 2 | f>f i>i l>l b>b
Gather | f 2, f 2 | fi>f fl>f ii>i il>i li>l ll>l bi>b bl>b
Pad; pads=0 0 | f 2 | f>f
Squeeze; axes= | f 2 | f>f i>i l>l b>b
Unsqueeze; axes= | f 2 | f>f i>i l>l b>b
Flatten | f 2 | f>f i>i l>l b>b
Softmax | f 2 | f>f
MatMul | f 2 2, f 2 2 | ff>f
Gemm | f 2 2, f 2 2 | ff>f
Gemm | f 2 2, f 2 2, f 2 | fff>f
Conv | f 1 1 1 1, f 1 1 1 1 | ff>f
Conv | f 1 1 1 1, f 1 1 1 1, f 1 | fff>f
MaxPool; kernel_shape=1 1 | f 1 1 1 1 | f>f
AveragePool; kernel_shape=1 1 | f 1 1 1 1 | f>f
GlobalAveragePool | f 1 1 1 1 | f>f
BatchNormalization | f 1 2, f 2, f 2, f 2, f 2 | fffff>f
`

// typeLists are all lists of so many types.
func typeLists(count int) [][]int {
	l := [][]int{nil}
	for range count {
		var longer [][]int
		for _, ahead := range l {
			for _, typ := range types() {
				longer = append(longer, append(slices.Clone(ahead), typ))
			}
		}
		l = longer
	}
	return l
}

func TestTypesOfEachOperator(t *testing.T) {
	for _, line := range strings.Split(strings.TrimSpace(typeRows), "\n") {
		part := strings.Split(line, "|")
		in := valuesOf(part[1])
		n := spell.Op(part[0], len(in))
		for _, list := range typeLists(len(in)) {
			want, wantError := 0, api.ErrGraph
			for _, row := range strings.Fields(part[2]) {
				from, to, _ := strings.Cut(row, ">")
				if slices.Equal(letters(from), list) {
					want, wantError = letters(to)[0], api.OK
				}
			}
			for i, typ := range list {
				in[i].Type = typ
			}
			if v, e := Out(n, in); v.Type != want || e != wantError {
				t.Errorf("P8.1: %s of types %d: %d, %d, not %d, %d", part[0], list, v.Type, e, want, wantError)
			}
		}
	}
}

func TestThenHasTheTypesOfNum(t *testing.T) {
	for _, line := range strings.Split(strings.TrimSpace(typeRows), "\n")[:10] {
		part := strings.Split(line, "|")
		for _, typ := range types() {
			n := spell.Op("Identity; then=Identity,"+strings.TrimSpace(part[0])+",Identity", 1)
			v, e := Out(n, []api.Value{{Type: typ, Dims: []int{2}}})
			var has []int
			for _, row := range strings.Fields(part[2]) {
				has = append(has, letters(row)[0])
			}
			if slices.Contains(has, typ) != (e == api.OK && v.Type == typ) || !slices.Contains(has, typ) && e != api.ErrGraph {
				t.Errorf("P8.1: then %sof type %d: %v, %d", part[0], typ, v, e)
			}
		}
	}
}

func TestTypesThatAreNone(t *testing.T) {
	for _, line := range strings.Split(strings.TrimSpace(typeRows), "\n") {
		part := strings.Split(line, "|")
		count := len(valuesOf(part[1]))
		n := spell.Op(part[0], count)
		for i := range count {
			for _, typ := range []int{0, 2, 5, 8, 10, -1, math.MinInt, math.MaxInt} {
				in := valuesOf(part[1])
				in[i].Type = typ
				if v, e := Out(n, in); v.Type != 0 || v.Name != "" || len(v.Dims) != 0 || e != api.ErrUnsupported {
					t.Errorf("P8.1: %s, input %d of type %d: %v, %d", part[0], i, typ, v, e)
				}
			}
			for _, c := range []struct {
				dims []int
				e    api.Errno
			}{{[]int{0}, api.ErrGraph}, {[]int{2, -1}, api.ErrGraph}, {[]int{65537}, api.ErrLimit}, {[]int{1, 1, 1, 1, 1, 1, 1}, api.ErrLimit}, {[]int{math.MaxInt, 2}, api.ErrLimit}} {
				in := valuesOf(part[1])
				in[i].Dims = c.dims
				if v, e := Out(n, in); v.Type != 0 || v.Name != "" || len(v.Dims) != 0 || e != c.e {
					t.Errorf("P8.1: %s, input %d of dims %d: %v, %d, not %d", part[0], i, c.dims, v, e, c.e)
				}
			}
		}
	}
}
