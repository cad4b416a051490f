package view

import (
	"iter"
	"slices"

	"mandrel/api"
	"mandrel/shape"
)

// mayBe tells whether v is a view at all.
func mayBe(v api.View) bool {
	if _, e := shape.Count(v.Dims); e != api.OK {
		return false
	}
	if len(v.Strides) != len(v.Dims) || v.Off < 0 || v.Off > maxOff {
		return false
	}
	for _, s := range v.Strides {
		if s < 0 || s > maxStride {
			return false
		}
	}
	return true
}

// isPlain tells of a view that may be whether it shows elements that stand one behind the other. The stride of a dimension of 1 is never gone.
func isPlain(v api.View) bool {
	plain, _ := shape.Strides(v.Dims)
	for i, d := range v.Dims {
		if d != 1 && v.Strides[i] != plain[i] {
			return false
		}
	}
	return true
}

// rowByRow is the plain view of elements from off on.
func rowByRow(off int, dims []int) (api.View, api.Errno) {
	strides, e := shape.Strides(dims)
	if e != api.OK {
		return api.View{}, e
	}
	return api.View{Off: off, Dims: slices.Clone(dims), Strides: strides}, api.OK
}

// isOrder tells whether perm are the numbers below n, each once; n is at most api.MaxRank.
func isOrder(perm []int, n int) bool {
	if len(perm) != n {
		return false
	}
	var met [api.MaxRank]bool
	for _, p := range perm {
		if p < 0 || p >= n || met[p] {
			return false
		}
		met[p] = true
	}
	return true
}

// pick takes of l the items that perm numbers.
func pick(l []int, perm []int) []int {
	picked := make([]int, len(perm))
	for i, p := range perm {
		picked[i] = l[p]
	}
	return picked
}

// further is the place that stands some strides behind another one. It may be greater than an int of 32 bits.
func further(place int64, steps int, stride int) int64 {
	return place + int64(steps)*int64(stride)
}

// last is the place of the last element that v shows.
func last(v api.View) int64 {
	place := int64(v.Off)
	for i, d := range v.Dims {
		place = further(place, d-1, v.Strides[i])
	}
	return place
}

// places goes along the places of the elements that v shows, row by row.
func places(v api.View) iter.Seq[int64] {
	return func(yield func(int64) bool) {
		along(v, 0, int64(v.Off), yield)
	}
}

// along goes through the coordinates of the dimensions from axis on, and tells whether to go on.
func along(v api.View, axis int, place int64, yield func(int64) bool) bool {
	if axis == len(v.Dims) {
		return yield(place)
	}
	for i := range v.Dims[axis] {
		if !along(v, axis+1, further(place, i, v.Strides[axis]), yield) {
			return false
		}
	}
	return true
}
