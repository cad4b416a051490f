package infer

import (
	"slices"

	"mandrel/api"
	"mandrel/attr"
	"mandrel/schema"
)

const maxPad = 65536 // of Pad, ahead of a dimension or behind it

func axisOf(a int64, rank int) int {
	axis, ok := attr.Axis(a, rank)
	must(ok)
	return axis
}

func axesOf(axes []int64, rank int) []bool {
	is, ok := attr.Axes(axes, rank)
	must(ok)
	return is
}

func reduced(n api.Node, x []int) []int {
	keep := isOn(schema.Int(n, "keepdims", 1))
	gone := axesOf(attr.Along(n, len(x)), len(x))
	var dims []int
	for i, d := range x {
		switch {
		case !gone[i]:
			dims = append(dims, d)
		case keep:
			dims = append(dims, 1)
		}
	}
	return dims
}

// reshaped gives up as soon as there are more elements than x has, so that no product is too great for its number.
func reshaped(x []int, shape []int64) []int {
	count, left := int64(countOf(x)), -1
	known := int64(1)
	var dims []int
	for i, d := range shape {
		switch d {
		case -1:
			must(left < 0)
			left, d = i, 1
		case 0:
			must(i < len(x))
			d = int64(x[i])
		}
		must(d >= 1 && d <= count)
		known *= d
		must(known <= count)
		dims = append(dims, int(d))
	}
	must(count%known == 0 && (left >= 0 || known == count))
	if left >= 0 {
		dims[left] = int(count / known)
	}
	return dims
}

func transposed(n api.Node, x []int) []int {
	perm := attr.Perm(n, len(x))
	must(len(perm) == len(x))
	axesOf(perm, len(x))
	var dims []int
	for _, p := range perm {
		// An axis may count from the end; the number of a dimension does not.
		must(p >= 0)
		dims = append(dims, x[p])
	}
	return dims
}

func joined(n api.Node, in []api.Value) []int {
	dims := slices.Clone(in[0].Dims)
	axis := axisOf(schema.Int(n, "axis", 0), len(dims))
	for _, v := range in[1:] {
		must(len(v.Dims) == len(dims))
		for i, d := range v.Dims {
			must(i == axis || d == dims[i])
		}
		dims[axis] += v.Dims[axis]
	}
	return dims
}

func sliced(n api.Node, x []int) []int {
	starts, ends := schema.Ints(n, "starts", nil), schema.Ints(n, "ends", nil)
	axes := schema.Ints(n, "axes", attr.UpTo(len(starts)))
	must(len(starts) == len(ends) && len(starts) == len(axes))
	axesOf(axes, len(x))
	dims := slices.Clone(x)
	for i, a := range axes {
		axis := axisOf(a, len(x))
		start, end := attr.Bounded(starts[i], x[axis]), attr.Bounded(ends[i], x[axis])
		must(start < end)
		dims[axis] = end - start
	}
	return dims
}

func padded(x []int, pads []int64) []int {
	must(len(pads) == 2*len(x))
	dims := slices.Clone(x)
	for i, p := range pads {
		must(p >= 0 && p <= maxPad)
		dims[i%len(x)] += int(p)
	}
	return dims
}

func squeezed(x []int, axes []int64) []int {
	gone := axesOf(axes, len(x))
	var dims []int
	for i, d := range x {
		must(!gone[i] || d == 1)
		if !gone[i] {
			dims = append(dims, d)
		}
	}
	return dims
}

func unsqueezed(x []int, axes []int64) []int {
	isNew := axesOf(axes, len(x)+len(axes))
	var dims []int
	for _, yes := range isNew {
		if yes {
			dims = append(dims, 1)
			continue
		}
		dims = append(dims, x[0])
		x = x[1:]
	}
	return dims
}

// flattened has an axis that may stand behind all dimensions.
func flattened(n api.Node, x []int) []int {
	axis := attr.FromEnd(schema.Int(n, "axis", 1), len(x))
	must(axis >= 0 && axis <= int64(len(x)))
	return []int{countOf(x[:axis]), countOf(x[axis:])}
}
