// Package attr says what attributes mean, for all layers that read the same ones.
package attr

import (
	"slices"

	"mandrel/api"
	"mandrel/schema"
)

// FromEnd is a number that counts from the end, if it is below 0.
func FromEnd(x int64, end int) int64 {
	if x < 0 {
		return x + int64(end)
	}
	return x
}

// Axis is an axis of a rank, or a place of a dimension, counted from the first one on; false, if there is none.
func Axis(a int64, rank int) (int, bool) {
	a = FromEnd(a, rank)
	if a < 0 || a >= int64(rank) {
		return 0, false
	}
	return int(a), true
}

// Axes tell of each dimension of a rank whether it is one of the axes; false, if one is none, or two are alike.
func Axes(axes []int64, rank int) ([]bool, bool) {
	is := make([]bool, rank)
	for _, a := range axes {
		i, ok := Axis(a, rank)
		if !ok || is[i] {
			return nil, false
		}
		is[i] = true
	}
	return is, true
}

// Bounded is where a slice starts or ends within a dimension.
func Bounded(x int64, dim int) int {
	return int(min(max(FromEnd(x, dim), 0), int64(dim)))
}

// UpTo are the numbers ahead of n, from 0 on.
func UpTo(n int) []int64 {
	l := make([]int64, n)
	for i := range l {
		l[i] = int64(i)
	}
	return l
}

// Perm is the order into which a Transpose brings the dimensions of a rank: without an attribute the last one comes first.
func Perm(n api.Node, rank int) []int64 {
	lastFirst := UpTo(rank)
	slices.Reverse(lastFirst)
	return schema.Ints(n, "perm", lastFirst)
}

// Along are the axes along which a node brings elements of a tensor of a rank together; what infer has not seen may be no axes.
func Along(n api.Node, rank int) []int64 {
	switch n.Op {
	case "ArgMax":
		return []int64{schema.Int(n, "axis", 0)}
	case "Softmax":
		return []int64{schema.Int(n, "axis", -1)}
	}
	return schema.Ints(n, "axes", UpTo(rank))
}

// Strides are how far a window of a Conv, or of a pool, goes to the next one, in the height and in the width.
func Strides(n api.Node) []int64 { return schema.Ints(n, "strides", []int64{1, 1}) }

// Dilations are how far a window's places stand apart, in the height and in the width. Pools have no such attribute.
func Dilations(n api.Node) []int64 { return schema.Ints(n, "dilations", []int64{1, 1}) }

// Pads are those ahead in the height and in the width, then those behind.
func Pads(n api.Node) []int64 { return schema.Ints(n, "pads", make([]int64, 4)) }

// Value is that of a Constant; its lists are the node's own.
func Value(n api.Node) api.Tensor {
	for _, a := range n.Attrs {
		if a.Name == "value" && a.Kind == api.AttrTensor {
			return a.T
		}
	}
	return api.Tensor{}
}

// ThenAt is where a node's then stands among its attributes, the first one, if there are several; below 0, if it has none.
func ThenAt(n api.Node) int {
	return slices.IndexFunc(n.Attrs, func(a api.Attr) bool { return a.Name == "then" && a.Kind == api.AttrString })
}
