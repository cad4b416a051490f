package attr

import (
	"math"
	"reflect"
	"slices"
	"testing"

	"mandrel/api"
	"mandrel/spell"
)

func TestAxis(t *testing.T) {
	for _, c := range []struct {
		a    int64
		rank int
		want int
		ok   bool
	}{
		{0, 3, 0, true}, {2, 3, 2, true}, {-1, 3, 2, true}, {-3, 3, 0, true}, {0, 1, 0, true},
		{3, 3, 0, false}, {-4, 3, 0, false}, {0, 0, 0, false}, {-1, 0, 0, false},
		{math.MaxInt64, 3, 0, false}, {math.MinInt64, 3, 0, false}, {1 << 32, 3, 0, false},
	} {
		if got, ok := Axis(c.a, c.rank); got != c.want || ok != c.ok {
			t.Errorf("axis %d of %d: %d, %t", c.a, c.rank, got, ok)
		}
	}
}

func TestAxes(t *testing.T) {
	for _, c := range []struct {
		axes []int64
		rank int
		want []bool
		ok   bool
	}{
		{nil, 2, []bool{false, false}, true},
		{[]int64{1}, 2, []bool{false, true}, true},
		{[]int64{-1, 0}, 3, []bool{true, false, true}, true},
		{[]int64{1, 1}, 2, nil, false},
		{[]int64{1, -1}, 2, nil, false},
		{[]int64{0, 2}, 2, nil, false},
		{[]int64{-3}, 2, nil, false},
		{[]int64{0}, 0, nil, false},
	} {
		if got, ok := Axes(c.axes, c.rank); !slices.Equal(got, c.want) || ok != c.ok {
			t.Errorf("axes %d of %d: %t, %t", c.axes, c.rank, got, ok)
		}
	}
}

func TestBounded(t *testing.T) {
	for _, c := range []struct {
		x    int64
		dim  int
		want int
	}{
		{0, 5, 0}, {3, 5, 3}, {5, 5, 5}, {6, 5, 5}, {-1, 5, 4}, {-5, 5, 0}, {-6, 5, 0}, {math.MaxInt64, 5, 5}, {math.MinInt64, 5, 0},
	} {
		if got := Bounded(c.x, c.dim); got != c.want {
			t.Errorf("%d within %d: %d", c.x, c.dim, got)
		}
	}
}

func TestPerm(t *testing.T) {
	for _, c := range []struct {
		text string
		rank int
		want []int64
	}{
		{"Transpose", 3, []int64{2, 1, 0}},
		{"Transpose", 0, nil},
		{"Transpose; perm=1 2 0", 3, []int64{1, 2, 0}},
		{"Transpose; perm=", 2, nil},
	} {
		if got := Perm(spell.Op(c.text, 1), c.rank); !slices.Equal(got, c.want) {
			t.Errorf("%s of the rank %d: %d", c.text, c.rank, got)
		}
	}
}

func TestAlong(t *testing.T) {
	for _, c := range []struct {
		text string
		rank int
		want []int64
	}{
		{"ReduceSum", 3, []int64{0, 1, 2}},
		{"ReduceMax", 0, nil},
		{"ReduceMean; axes=-1 0", 3, []int64{-1, 0}},
		{"ReduceSum; axes=", 2, nil},
		{"ArgMax", 3, []int64{0}},
		{"ArgMax; axis=-2", 3, []int64{-2}},
		{"Softmax", 3, []int64{-1}},
		{"Softmax; axis=1", 3, []int64{1}},
	} {
		if got := Along(spell.Op(c.text, 1), c.rank); !slices.Equal(got, c.want) {
			t.Errorf("%s of the rank %d: %d", c.text, c.rank, got)
		}
	}
}

func TestWindows(t *testing.T) {
	for _, c := range []struct {
		text                     string
		strides, dilations, pads []int64
	}{
		{"Conv", []int64{1, 1}, []int64{1, 1}, []int64{0, 0, 0, 0}},
		{"Conv; strides=2 3; dilations=4 5; pads=6 7 8 9", []int64{2, 3}, []int64{4, 5}, []int64{6, 7, 8, 9}},
		{"MaxPool; strides=3 2", []int64{3, 2}, []int64{1, 1}, []int64{0, 0, 0, 0}},
		{"Conv; strides=; pads=-1", nil, []int64{1, 1}, []int64{-1}},
	} {
		n := spell.Op(c.text, 2)
		if s, d, p := Strides(n), Dilations(n), Pads(n); !slices.Equal(s, c.strides) || !slices.Equal(d, c.dilations) || !slices.Equal(p, c.pads) {
			t.Errorf("%s: strides %d, dilations %d, pads %d", c.text, s, d, p)
		}
	}
}

func TestValue(t *testing.T) {
	n := spell.Node("c = Constant(); then=Neg; value=i 2: 3 4")
	if got, want := Value(n), spell.Tensor("i 2: 3 4"); !reflect.DeepEqual(got, want) {
		t.Errorf("%v: %v", n, got)
	}
	for _, n := range []api.Node{{}, {Attrs: []api.Attr{{Name: "value", Kind: api.AttrFloat, T: spell.Tensor("i: 3")}}}} {
		if got := Value(n); !reflect.DeepEqual(got, api.Tensor{}) {
			t.Errorf("%v: %v", n, got)
		}
	}
}

func TestThenAt(t *testing.T) {
	for text, want := range map[string]int{
		"Neg":                                   -1,
		"Neg; then=Abs":                         0,
		"Neg; then=":                            0,
		"Slice; starts=0; then=Neg,Abs; ends=1": 1,
		"Pad; pads=0 0; value=1; then=Neg":      2,
		"Neg; axis=1; then=Neg; then=Abs":       1,
	} {
		if got := ThenAt(spell.Op(text, 1)); got != want {
			t.Errorf("%s: %d", text, got)
		}
	}
	n := api.Node{Attrs: []api.Attr{{Name: "then", Kind: api.AttrInt, S: "Neg"}, {Name: "Then", Kind: api.AttrString, S: "Neg"}}}
	if got := ThenAt(n); got != -1 {
		t.Errorf("%v: %d", n, got)
	}
}
