package view

import (
	"math"
	"slices"
	"testing"

	"mandrel/api"
)

// viewOf writes a view down shortly.
func viewOf(off int, dims, strides []int) api.View {
	return api.View{Off: off, Dims: dims, Strides: strides}
}

func same(v, w api.View) bool {
	return v.Off == w.Off && slices.Equal(v.Dims, w.Dims) && slices.Equal(v.Strides, w.Strides)
}

// expect tells where an answer is not the view, or the error, that it ought to be. Beside an error the view must be a zero one (R3).
func expect(t *testing.T, what string, v api.View, e api.Errno, want api.View, wantErr api.Errno) {
	t.Helper()
	if !same(v, want) || e != wantErr {
		t.Errorf("%s: %v, %d, not %v, %d", what, v, e, want, wantErr)
	}
}

// wrongViews are views that may not be.
func wrongViews() []api.View {
	return []api.View{
		viewOf(0, []int{0}, []int{1}),
		viewOf(0, []int{2, -1}, []int{1, 1}),
		viewOf(0, []int{65537}, []int{0}),
		viewOf(0, []int{256, 257}, []int{0, 0}),
		viewOf(0, []int{math.MaxInt, math.MaxInt}, []int{0, 0}),
		viewOf(0, []int{1, 1, 1, 1, 1, 1, 1}, []int{1, 1, 1, 1, 1, 1, 1}),
		viewOf(0, []int{2}, nil),
		viewOf(0, []int{2, 3}, []int{1}),
		viewOf(0, []int{2}, []int{1, 1}),
		viewOf(0, nil, []int{1}),
		viewOf(-1, []int{2}, []int{1}),
		viewOf(math.MinInt, nil, nil),
		viewOf(65536, []int{2}, []int{0}),
		viewOf(math.MaxInt, nil, nil),
		viewOf(0, []int{2}, []int{-1}),
		viewOf(0, []int{1}, []int{-1}),
		viewOf(0, []int{2}, []int{65537}),
		viewOf(0, []int{1}, []int{65537}),
		viewOf(0, []int{2, 3}, []int{3, math.MinInt}),
		viewOf(0, []int{2, 3}, []int{math.MaxInt, 1}),
	}
}

// refused are dimensions with the error that they are refused by.
type refused struct {
	dims []int
	e    api.Errno
}

// wrongDims are dimensions that may not be, with shape's error.
func wrongDims() []refused {
	return []refused{
		{[]int{0}, api.ErrGraph},
		{[]int{-1, 2}, api.ErrGraph},
		{[]int{65537, 0}, api.ErrGraph},
		{[]int{1, 1, 1, 1, 1, 1, 0}, api.ErrGraph},
		{[]int{65537}, api.ErrLimit},
		{[]int{256, 257}, api.ErrLimit},
		{[]int{1, 1, 1, 1, 1, 1, 1}, api.ErrLimit},
		{[]int{math.MaxInt, math.MaxInt}, api.ErrLimit},
	}
}

// R2: a view that may not be is named ahead of all else that is wrong; R3: nothing comes with it.
func TestViewsThatMayNotBe(t *testing.T) {
	data := make([]int64, 3*65536)
	for _, v := range wrongViews() {
		for _, l := range [][]int{nil, {0}, {1, 0}, {5}, {0, 0}, {65537}, v.Dims} {
			w, e := Transpose(v, l)
			expect(t, "P4.2: Transpose", w, e, api.View{}, api.ErrArg)
			w, e = Spread(v, l)
			expect(t, "P4.4: Spread", w, e, api.View{}, api.ErrArg)
			w, e = Reshape(v, l)
			expect(t, "P4.5: Reshape", w, e, api.View{}, api.ErrArg)
		}
		for _, c := range [][3]int{{0, 0, 1}, {-1, 0, 1}, {9, 0, 1}, {0, 1, 1}, {1, 0, 1}, {0, -1, math.MaxInt}} {
			w, e := Slice(v, c[0], c[1], c[2])
			expect(t, "P4.3: Slice", w, e, api.View{}, api.ErrArg)
		}
		if l, e := Read(v, data); len(l) != 0 || e != api.ErrArg {
			t.Errorf("P4.6: Read of %v: %d elements, %d, not %d", v, len(l), e, api.ErrArg)
		}
	}
}

// The greatest Off and strides that there may be, and strides of 0: all calls take them.
func TestViewsAtTheEdges(t *testing.T) {
	for _, v := range []api.View{
		viewOf(0, nil, nil),
		viewOf(65535, nil, nil),
		viewOf(65535, []int{2}, []int{65536}),
		viewOf(0, []int{2}, []int{0}),
		viewOf(65535, []int{65536}, []int{65536}),
		viewOf(0, []int{65536}, []int{0}),
		viewOf(1, []int{1, 1, 1, 1, 1, 1}, []int{0, 65536, 1, 2, 3, 4}),
		viewOf(65535, []int{6, 6, 6, 6, 6, 6}, []int{65536, 65536, 65536, 65536, 65536, 65536}),
	} {
		perm := make([]int, len(v.Dims))
		for i := range perm {
			perm[i] = i
		}
		w, e := Transpose(v, perm)
		expect(t, "P4.2: Transpose to the same", w, e, v, api.OK)
		w, e = Spread(v, v.Dims)
		expect(t, "P4.4: Spread to the same", w, e, v, api.OK)
		for i, d := range v.Dims {
			w, e = Slice(v, i, 0, d)
			expect(t, "P4.3: Slice of all", w, e, v, api.OK)
		}
	}
}

func TestWhole(t *testing.T) {
	for _, c := range []struct{ dims, strides []int }{
		{nil, nil},
		{[]int{65536}, []int{1}},
		{[]int{2, 3}, []int{3, 1}},
		{[]int{1, 65536}, []int{65536, 1}},
		{[]int{9, 2, 3, 4, 5, 6}, []int{720, 360, 120, 30, 6, 1}},
	} {
		v, e := Whole(c.dims)
		expect(t, "P4.1: Whole", v, e, viewOf(0, c.dims, c.strides), api.OK)
	}
	for _, c := range wrongDims() {
		v, e := Whole(c.dims)
		expect(t, "P4.1: Whole", v, e, api.View{}, c.e)
	}
}

func TestTranspose(t *testing.T) {
	v := viewOf(7, []int{2, 3, 4}, []int{50, 0, 65536})
	for _, c := range []struct {
		perm []int
		want api.View
	}{
		{[]int{0, 1, 2}, v},
		{[]int{1, 2, 0}, viewOf(7, []int{3, 4, 2}, []int{0, 65536, 50})},
		{[]int{2, 0, 1}, viewOf(7, []int{4, 2, 3}, []int{65536, 50, 0})},
		{[]int{2, 1, 0}, viewOf(7, []int{4, 3, 2}, []int{65536, 0, 50})},
	} {
		w, e := Transpose(v, c.perm)
		expect(t, "P4.2: Transpose", w, e, c.want, api.OK)
	}
	w, e := Transpose(viewOf(3, nil, nil), nil)
	expect(t, "P4.2: Transpose of none", w, e, viewOf(3, nil, nil), api.OK)
	for _, perm := range [][]int{nil, {0}, {0, 1}, {0, 1, 2, 3}, {0, 1, 1}, {0, 0, 0}, {2, 1, 2}, {1, 2, 3}, {-1, 0, 1}, {0, 1, 6}, {math.MinInt, 1, 2}, {0, 1, math.MaxInt}} {
		w, e := Transpose(v, perm)
		expect(t, "P4.2: Transpose by no order", w, e, api.View{}, api.ErrGraph)
	}
	w, e = Transpose(viewOf(0, nil, nil), []int{0})
	expect(t, "P4.2: Transpose of none by one", w, e, api.View{}, api.ErrGraph)
}

func TestSlice(t *testing.T) {
	v := viewOf(7, []int{2, 3, 4}, []int{50, 0, 65528})
	for _, c := range []struct {
		axis, from, to int
		want           api.View
		e              api.Errno
	}{
		{0, 0, 2, v, api.OK},
		{0, 1, 2, viewOf(57, []int{1, 3, 4}, v.Strides), api.OK},
		{0, 0, 1, viewOf(7, []int{1, 3, 4}, v.Strides), api.OK},
		{1, 1, 3, viewOf(7, []int{2, 2, 4}, v.Strides), api.OK},
		{2, 1, 3, viewOf(65535, []int{2, 3, 2}, v.Strides), api.OK},
		{2, 2, 3, api.View{}, api.ErrLimit},
		{2, 3, 4, api.View{}, api.ErrLimit},
		{-1, 0, 1, api.View{}, api.ErrGraph},
		{3, 0, 1, api.View{}, api.ErrGraph},
		{math.MaxInt, 0, 1, api.View{}, api.ErrGraph},
		{math.MinInt, 0, 1, api.View{}, api.ErrGraph},
		{0, -1, 1, api.View{}, api.ErrGraph},
		{0, math.MinInt, 1, api.View{}, api.ErrGraph},
		{0, 0, 3, api.View{}, api.ErrGraph},
		{0, 0, math.MaxInt, api.View{}, api.ErrGraph},
		{0, 1, 1, api.View{}, api.ErrGraph},
		{0, 0, 0, api.View{}, api.ErrGraph},
		{0, 2, 2, api.View{}, api.ErrGraph},
		{1, 2, 1, api.View{}, api.ErrGraph},
		{0, 1, math.MinInt, api.View{}, api.ErrGraph},
		// R2: a part that there is not is named ahead of an Off too great.
		{2, 3, 5, api.View{}, api.ErrGraph},
		{2, 3, 3, api.View{}, api.ErrGraph},
		{2, 4, 5, api.View{}, api.ErrGraph},
	} {
		w, e := Slice(v, c.axis, c.from, c.to)
		expect(t, "P4.3: Slice", w, e, c.want, c.e)
	}
	w, e := Slice(viewOf(0, nil, nil), 0, 0, 1)
	expect(t, "P4.3: Slice of none", w, e, api.View{}, api.ErrGraph)
	w, e = Slice(viewOf(65535, []int{2}, []int{1}), 0, 1, 2)
	expect(t, "P4.3: Slice beyond the greatest Off", w, e, api.View{}, api.ErrLimit)
	w, e = Slice(viewOf(65534, []int{2}, []int{1}), 0, 1, 2)
	expect(t, "P4.3: Slice to the greatest Off", w, e, viewOf(65535, []int{1}, []int{1}), api.OK)
	// 65535 times 65536 is 65536 below 2^32: an Off of 32 bits would wrap round.
	w, e = Slice(viewOf(65535, []int{65536}, []int{65536}), 0, 65535, 65536)
	expect(t, "P4.3: Slice far beyond", w, e, api.View{}, api.ErrLimit)
}

func TestSpread(t *testing.T) {
	v := viewOf(7, []int{2, 1, 3}, []int{5, 9, 4})
	for _, c := range []struct {
		dims []int
		want api.View
		e    api.Errno
	}{
		{[]int{2, 1, 3}, v, api.OK},
		{[]int{2, 4, 3}, viewOf(7, []int{2, 4, 3}, []int{5, 0, 4}), api.OK},
		{[]int{1, 2, 1, 3}, viewOf(7, []int{1, 2, 1, 3}, []int{0, 5, 9, 4}), api.OK},
		{[]int{6, 1, 5, 2, 1, 3}, viewOf(7, []int{6, 1, 5, 2, 1, 3}, []int{0, 0, 0, 5, 9, 4}), api.OK},
		{[]int{6, 1, 5, 2, 7, 3}, viewOf(7, []int{6, 1, 5, 2, 7, 3}, []int{0, 0, 0, 5, 0, 4}), api.OK},
		{nil, api.View{}, api.ErrGraph},
		{[]int{3}, api.View{}, api.ErrGraph},
		{[]int{1, 3}, api.View{}, api.ErrGraph},
		{[]int{1, 1, 3}, api.View{}, api.ErrGraph},
		{[]int{2, 1, 1}, api.View{}, api.ErrGraph},
		{[]int{2, 4, 1}, api.View{}, api.ErrGraph},
		{[]int{3, 1, 2}, api.View{}, api.ErrGraph},
		{[]int{2, 2, 2}, api.View{}, api.ErrGraph},
	} {
		w, e := Spread(v, c.dims)
		expect(t, "P4.4: Spread", w, e, c.want, c.e)
	}
	for _, c := range wrongDims() {
		w, e := Spread(v, c.dims)
		expect(t, "P4.4: Spread to what may not be", w, e, api.View{}, c.e)
	}
}

func TestSpreadToTheLimit(t *testing.T) {
	w, e := Spread(viewOf(65535, nil, nil), []int{65536})
	expect(t, "P4.4: Spread of one to many", w, e, viewOf(65535, []int{65536}, []int{0}), api.OK)
	w, e = Spread(viewOf(0, []int{256, 1}, []int{1, 1}), []int{256})
	expect(t, "P4.4: Spread that is not the greater one", w, e, api.View{}, api.ErrGraph)
	// R2: Broadcast's error is named ahead of dimensions that are not the greater ones.
	w, e = Spread(viewOf(0, []int{256, 1}, []int{1, 1}), []int{257})
	expect(t, "P4.4: Spread to too many", w, e, api.View{}, api.ErrLimit)
}

func TestReshape(t *testing.T) {
	plain := viewOf(7, []int{2, 1, 3}, []int{3, 9, 1})
	for _, c := range []struct {
		v    api.View
		dims []int
		want api.View
		e    api.Errno
	}{
		{plain, []int{6}, viewOf(7, []int{6}, []int{1}), api.OK},
		{plain, []int{3, 2}, viewOf(7, []int{3, 2}, []int{2, 1}), api.OK},
		{plain, []int{2, 1, 3}, viewOf(7, []int{2, 1, 3}, []int{3, 3, 1}), api.OK},
		{plain, []int{1, 1, 1, 1, 1, 6}, viewOf(7, []int{1, 1, 1, 1, 1, 6}, []int{6, 6, 6, 6, 6, 1}), api.OK},
		{viewOf(65535, nil, nil), []int{1, 1}, viewOf(65535, []int{1, 1}, []int{1, 1}), api.OK},
		{viewOf(4, []int{1, 1}, []int{0, 65536}), nil, viewOf(4, nil, nil), api.OK},
		{viewOf(0, []int{65536}, []int{1}), []int{256, 256}, viewOf(0, []int{256, 256}, []int{256, 1}), api.OK},
		{plain, []int{5}, api.View{}, api.ErrGraph},
		{plain, nil, api.View{}, api.ErrGraph},
		{plain, []int{12}, api.View{}, api.ErrGraph},
		{viewOf(0, []int{2, 3}, []int{1, 2}), []int{6}, api.View{}, api.ErrArg},
		{viewOf(0, []int{2, 3}, []int{3, 0}), []int{6}, api.View{}, api.ErrArg},
		{viewOf(0, []int{2, 3}, []int{4, 1}), []int{2, 3}, api.View{}, api.ErrArg},
		{viewOf(0, []int{6}, []int{2}), []int{6}, api.View{}, api.ErrArg},
		{viewOf(0, []int{2, 1, 2}, []int{1, 1, 1}), []int{4}, api.View{}, api.ErrArg},
		// R2: another number of elements is named ahead of a view that is not plain.
		{viewOf(0, []int{2, 3}, []int{1, 2}), []int{5}, api.View{}, api.ErrGraph},
	} {
		w, e := Reshape(c.v, c.dims)
		expect(t, "P4.5: Reshape", w, e, c.want, c.e)
	}
	for _, c := range wrongDims() {
		for _, v := range []api.View{plain, viewOf(0, []int{2, 3}, []int{1, 2}), viewOf(0, nil, nil)} {
			w, e := Reshape(v, c.dims)
			expect(t, "P4.5: Reshape to what may not be", w, e, api.View{}, c.e)
		}
	}
}
