package shape

import (
	"math"
	"slices"
	"testing"

	"mandrel/api"
)

// refused are dimensions with the error that they are refused by.
type refused struct {
	dims []int
	e    api.Errno
}

// wrongDims are dimensions that may not be, with Count's error.
func wrongDims() []refused {
	return []refused{
		{[]int{0}, api.ErrGraph},
		{[]int{-1}, api.ErrGraph},
		{[]int{math.MinInt}, api.ErrGraph},
		{[]int{-1, -1}, api.ErrGraph},
		{[]int{2, 3, 0}, api.ErrGraph},
		{[]int{0, 2, 3}, api.ErrGraph},
		{[]int{65537}, api.ErrLimit},
		{[]int{256, 257}, api.ErrLimit},
		{[]int{257, 256}, api.ErrLimit},
		{[]int{65536, 2}, api.ErrLimit},
		{[]int{2, 65536}, api.ErrLimit},
		{[]int{2, 1, 65536, 1}, api.ErrLimit},
		{[]int{32768, 3}, api.ErrLimit},
		{[]int{math.MaxInt}, api.ErrLimit},
		{[]int{math.MaxInt, math.MaxInt}, api.ErrLimit},
		// Products that wrap round to 0, to 1, and to what is below 0.
		{[]int{1 << 16, 1 << 16, 1 << 16, 1 << 16}, api.ErrLimit},
		{[]int{1 << (intBits/2 - 1), 1 << (intBits/2 - 1), 4}, api.ErrLimit},
		{[]int{1<<(intBits/2) + 1, 1<<(intBits/2) - 1, 1<<(intBits/2) + 1, 1<<(intBits/2) - 1}, api.ErrLimit},
		{[]int{1 << (intBits - 2), 2}, api.ErrLimit},
		{[]int{1, 1, 1, 1, 1, 1, 1}, api.ErrLimit},
		{slices.Repeat([]int{1}, 1000), api.ErrLimit},
		// R2: what is below 1 is named ahead of what is too great.
		{[]int{65537, 0}, api.ErrGraph},
		{[]int{0, 65537}, api.ErrGraph},
		{[]int{math.MaxInt, math.MaxInt, -1}, api.ErrGraph},
		{[]int{1, 1, 1, 1, 1, 1, 0}, api.ErrGraph},
		{[]int{0, 1, 1, 1, 1, 1, 1}, api.ErrGraph},
		{[]int{2, 2, 2, 2, 2, 2, 65536, -5}, api.ErrGraph},
	}
}

// intBits is how many bits an int has.
const intBits = 32 << (^uint(0) >> 63)

// goodDims are dimensions that may be.
func goodDims() [][]int {
	return [][]int{
		nil, {}, {1}, {7}, {65536}, {2, 3}, {3, 2}, {2, 3, 4}, {1, 5, 1}, {5, 1, 1}, {1, 1, 5},
		{256, 256}, {65536, 1}, {1, 65536}, {65535}, {2, 1, 3, 1, 2}, {1, 1, 1, 1, 1, 1},
		{1, 2, 3, 4, 5, 6}, {4, 4, 4, 4, 4, 4}, {2, 2, 2, 2, 2, 2048}, {16, 1, 16, 1, 16, 16},
	}
}

func TestCount(t *testing.T) {
	for _, dims := range goodDims() {
		want := 1
		for _, d := range dims {
			want *= d
		}
		if n, e := Count(dims); n != want || e != api.OK {
			t.Errorf("P3.1: Count of %d: %d, %d, not %d", dims, n, e, want)
		}
	}
	for _, c := range wrongDims() {
		if n, e := Count(c.dims); n != 0 || e != c.e {
			t.Errorf("P3.1: Count of %d: %d, %d, not %d", c.dims, n, e, c.e)
		}
	}
}

func TestStrides(t *testing.T) {
	for _, c := range []struct{ dims, want []int }{
		{nil, nil},
		{[]int{5}, []int{1}},
		{[]int{65536}, []int{1}},
		{[]int{2, 3, 4}, []int{12, 4, 1}},
		{[]int{4, 1, 3}, []int{3, 3, 1}},
		{[]int{1, 1, 1}, []int{1, 1, 1}},
		{[]int{1, 65536}, []int{65536, 1}},
		{[]int{65536, 1}, []int{1, 1}},
		{[]int{9, 2, 3, 4, 5, 6}, []int{720, 360, 120, 30, 6, 1}},
	} {
		if l, e := Strides(c.dims); !slices.Equal(l, c.want) || e != api.OK {
			t.Errorf("P3.3: Strides of %d: %d, %d, not %d", c.dims, l, e, c.want)
		}
	}
	for _, c := range wrongDims() {
		if l, e := Strides(c.dims); len(l) != 0 || e != c.e {
			t.Errorf("P3.3: Strides of %d: %d, %d, not %d", c.dims, l, e, c.e)
		}
	}
}

func TestOffset(t *testing.T) {
	for _, c := range []struct {
		dims, at []int
		n        int
		e        api.Errno
	}{
		{nil, nil, 0, api.OK},
		{[]int{2, 3}, []int{0, 0}, 0, api.OK},
		{[]int{2, 3}, []int{0, 1}, 1, api.OK},
		{[]int{2, 3}, []int{1, 0}, 3, api.OK},
		{[]int{2, 3}, []int{1, 2}, 5, api.OK},
		{[]int{9, 2, 3, 4, 5, 6}, []int{8, 1, 2, 3, 4, 5}, 6479, api.OK},
		{[]int{65536}, []int{65535}, 65535, api.OK},
		{[]int{256, 1, 256}, []int{255, 0, 255}, 65535, api.OK},
		{nil, []int{0}, 0, api.ErrArg},
		{[]int{2}, nil, 0, api.ErrArg},
		{[]int{2, 3}, []int{1}, 0, api.ErrArg},
		{[]int{2, 3}, []int{1, 2, 0}, 0, api.ErrArg},
		{[]int{2, 3}, []int{2, 0}, 0, api.ErrArg},
		{[]int{2, 3}, []int{0, 3}, 0, api.ErrArg},
		{[]int{2, 3}, []int{-1, 2}, 0, api.ErrArg},
		{[]int{2, 3}, []int{1, -1}, 0, api.ErrArg},
		{[]int{2, 3}, []int{0, 5}, 0, api.ErrArg},
		{[]int{2, 3}, []int{math.MaxInt, math.MinInt}, 0, api.ErrArg},
		{[]int{1}, []int{1}, 0, api.ErrArg},
	} {
		if n, e := Offset(c.dims, c.at); n != c.n || e != c.e {
			t.Errorf("P3.4: Offset of %d, %d: %d, %d, not %d, %d", c.dims, c.at, n, e, c.n, c.e)
		}
	}
	// R2: the dimensions' error is named ahead of the coordinates'.
	for _, c := range wrongDims() {
		for _, at := range [][]int{nil, {-1}, make([]int, len(c.dims))} {
			if n, e := Offset(c.dims, at); n != 0 || e != c.e {
				t.Errorf("P3.4: Offset of %d, %d: %d, %d, not %d", c.dims, at, n, e, c.e)
			}
		}
	}
}

func TestCoords(t *testing.T) {
	for _, c := range []struct {
		dims []int
		n    int
		want []int
		e    api.Errno
	}{
		{nil, 0, nil, api.OK},
		{[]int{2, 3}, 0, []int{0, 0}, api.OK},
		{[]int{2, 3}, 2, []int{0, 2}, api.OK},
		{[]int{2, 3}, 3, []int{1, 0}, api.OK},
		{[]int{2, 3}, 5, []int{1, 2}, api.OK},
		{[]int{65536}, 65535, []int{65535}, api.OK},
		{[]int{256, 1, 256}, 65535, []int{255, 0, 255}, api.OK},
		{nil, 1, nil, api.ErrArg},
		{nil, -1, nil, api.ErrArg},
		{[]int{2, 3}, 6, nil, api.ErrArg},
		{[]int{2, 3}, -1, nil, api.ErrArg},
		{[]int{2, 3}, math.MinInt, nil, api.ErrArg},
		{[]int{2, 3}, math.MaxInt, nil, api.ErrArg},
		{[]int{65536}, 65536, nil, api.ErrArg},
	} {
		if l, e := Coords(c.dims, c.n); !slices.Equal(l, c.want) || e != c.e {
			t.Errorf("P3.4: Coords of %d, %d: %d, %d, not %d, %d", c.dims, c.n, l, e, c.want, c.e)
		}
	}
	// R2: the dimensions' error is named ahead of the number's.
	for _, c := range wrongDims() {
		for _, n := range []int{0, -1, math.MaxInt} {
			if l, e := Coords(c.dims, n); len(l) != 0 || e != c.e {
				t.Errorf("P3.4: Coords of %d, %d: %d, %d, not %d", c.dims, n, l, e, c.e)
			}
		}
	}
}

// TestThereAndBack goes through all elements, the last coordinate fastest: an odometer tells what Coords must be.
func TestThereAndBack(t *testing.T) {
	for _, dims := range goodDims() {
		count, _ := Count(dims)
		at := make([]int, len(dims))
		for n := range count {
			l, e := Coords(dims, n)
			if !slices.Equal(l, at) || e != api.OK {
				t.Fatalf("P3.5: Coords of %d, %d: %d, %d, not %d", dims, n, l, e, at)
			}
			if back, e := Offset(dims, l); back != n || e != api.OK {
				t.Fatalf("P3.5: Offset of %d, %d: %d, %d, not %d", dims, l, back, e, n)
			}
			for i := len(at) - 1; i >= 0; i-- {
				at[i]++
				if at[i] < dims[i] {
					break
				}
				at[i] = 0
			}
		}
	}
}
