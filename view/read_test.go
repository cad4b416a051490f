package view

import (
	"math"
	"slices"
	"testing"

	"mandrel/api"
	"mandrel/shape"
)

// numbered are data of which each element is its own number.
func numbered(n int) []int64 {
	l := make([]int64, n)
	for i := range l {
		l[i] = int64(i)
	}
	return l
}

func expectRead(t *testing.T, v api.View, data []int64, want []int64, wantErr api.Errno) {
	t.Helper()
	if l, e := Read(v, data); !slices.Equal(l, want) || e != wantErr {
		t.Errorf("P4.6: Read of %v: %d, %d, not %d, %d", v, l, e, want, wantErr)
	}
}

func TestRead(t *testing.T) {
	data := []int64{10, 11, math.MinInt64, 13, math.MaxInt64, -15}
	for _, c := range []struct {
		v    api.View
		want []int64
		e    api.Errno
	}{
		{viewOf(0, nil, nil), []int64{10}, api.OK},
		{viewOf(5, nil, nil), []int64{-15}, api.OK},
		{viewOf(0, []int{6}, []int{1}), data, api.OK},
		{viewOf(1, []int{5}, []int{1}), data[1:], api.OK},
		{viewOf(1, []int{3}, []int{2}), []int64{11, 13, -15}, api.OK},
		{viewOf(5, []int{3}, []int{0}), []int64{-15, -15, -15}, api.OK},
		{viewOf(0, []int{2, 3}, []int{1, 2}), []int64{10, math.MinInt64, math.MaxInt64, 11, 13, -15}, api.OK},
		{viewOf(0, []int{3, 2}, []int{1, 1}), []int64{10, 11, 11, math.MinInt64, math.MinInt64, 13}, api.OK},
		// A dimension of 1 goes nowhere, whatever its stride.
		{viewOf(4, []int{1, 2, 1}, []int{65536, 1, 65536}), data[4:], api.OK},
		{viewOf(0, []int{1, 1, 1, 1, 1, 6}, []int{9, 9, 9, 9, 9, 1}), data, api.OK},
		{viewOf(6, nil, nil), nil, api.ErrArg},
		{viewOf(65535, nil, nil), nil, api.ErrArg},
		{viewOf(0, []int{7}, []int{1}), nil, api.ErrArg},
		{viewOf(1, []int{6}, []int{1}), nil, api.ErrArg},
		{viewOf(0, []int{2}, []int{6}), nil, api.ErrArg},
		{viewOf(0, []int{2}, []int{65536}), nil, api.ErrArg},
		{viewOf(0, []int{2, 3}, []int{4, 1}), nil, api.ErrArg},
		{viewOf(0, []int{3, 2}, []int{0, 6}), nil, api.ErrArg},
		// 65536 places, the last one at 2^32 - 65536 and more.
		{viewOf(0, []int{65536}, []int{65536}), nil, api.ErrArg},
		{viewOf(65535, []int{65536}, []int{65536}), nil, api.ErrArg},
	} {
		expectRead(t, c.v, data, c.want, c.e)
	}
	expectRead(t, viewOf(0, nil, nil), nil, nil, api.ErrArg)
	expectRead(t, viewOf(0, []int{6}, []int{1}), data[:5], nil, api.ErrArg)
	expectRead(t, viewOf(65535, []int{2}, []int{65536}), numbered(131072), []int64{65535, 131071}, api.OK)
	expectRead(t, viewOf(65535, []int{2}, []int{65536}), numbered(131071), nil, api.ErrArg)
	expectRead(t, viewOf(0, []int{65536}, []int{1}), numbered(65536), numbered(65536), api.OK)
	expectRead(t, viewOf(0, []int{65536}, []int{1}), numbered(65535), nil, api.ErrArg)
}

// The document's examples.
func TestExamples(t *testing.T) {
	data := numbered(6)
	whole, _ := Whole([]int{2, 3})
	turned, e := Transpose(whole, []int{1, 0})
	expectRead(t, turned, data, []int64{0, 3, 1, 4, 2, 5}, e)
	part, e := Slice(whole, 1, 1, 3)
	expectRead(t, part, data, []int64{1, 2, 4, 5}, e)
	row, _ := Slice(whole, 0, 1, 2)
	twice, e := Spread(row, []int{2, 3})
	expectRead(t, twice, data, []int64{3, 4, 5, 3, 4, 5}, e)
	other, _ := Reshape(whole, []int{3, 2})
	other, e = Transpose(other, []int{1, 0})
	expectRead(t, other, data, []int64{0, 2, 4, 1, 3, 5}, e)
	none, e := Reshape(turned, []int{6})
	expect(t, "P4.5: Reshape of a transposed one", none, e, api.View{}, api.ErrArg)
}

// placeAt is where v's element at some coordinates stands, by the words of the document.
func placeAt(v api.View, at []int) int {
	place := v.Off
	for i, c := range at {
		place += c * v.Strides[i]
	}
	return place
}

// shownAt is what v shows at some coordinates, if its data are numbered.
func shownAt(t *testing.T, v api.View, at []int) int64 {
	t.Helper()
	l, e := Read(v, numbered(400000))
	n, f := shape.Offset(v.Dims, at)
	if e != api.OK || f != api.OK {
		t.Fatalf("P4.6: Read of %v: %d, at %d: %d", v, e, at, f)
	}
	return l[n]
}

func someViews() []api.View {
	return []api.View{
		viewOf(0, nil, nil),
		viewOf(9, []int{4}, []int{3}),
		viewOf(3, []int{2, 3}, []int{7, 2}),
		viewOf(3, []int{2, 3, 4}, []int{0, 65536, 11}),
		viewOf(65535, []int{3, 1, 2, 2}, []int{1, 65536, 100, 1000}),
		viewOf(1, []int{2, 3, 1, 2, 1, 3}, []int{1, 10, 5, 100, 0, 1000}),
	}
}

func TestReadIsWhatIsShown(t *testing.T) {
	for _, v := range someViews() {
		n, _ := shape.Count(v.Dims)
		l, e := Read(v, numbered(400000))
		if len(l) != n || e != api.OK {
			t.Fatalf("P4.6: Read of %v: %d elements, %d", v, len(l), e)
		}
		for i, x := range l {
			at, _ := shape.Coords(v.Dims, i)
			if int(x) != placeAt(v, at) {
				t.Errorf("P4.6: Read of %v: number %d is %d, not %d", v, i, x, placeAt(v, at))
			}
		}
	}
}

// orders are all orders of the numbers below n.
func orders(n int) [][]int {
	if n == 0 {
		return [][]int{{}}
	}
	var all [][]int
	for _, l := range orders(n - 1) {
		for i := range n {
			all = append(all, slices.Insert(slices.Clone(l), i, n-1))
		}
	}
	return all
}

func opposite(perm []int) []int {
	back := make([]int, len(perm))
	for i, p := range perm {
		back[p] = i
	}
	return back
}

func TestTransposedShowsThePutBack(t *testing.T) {
	for _, v := range someViews() {
		for k, perm := range orders(len(v.Dims)) {
			w, e := Transpose(v, perm)
			if e != api.OK {
				t.Fatalf("P4.2: Transpose of %v, %d: %d", v, perm, e)
			}
			n, _ := shape.Count(w.Dims)
			at, _ := shape.Coords(w.Dims, k*7%n)
			back := make([]int, len(at))
			for i, p := range perm {
				back[p] = at[i]
			}
			if x, y := shownAt(t, w, at), shownAt(t, v, back); x != y {
				t.Errorf("P4.7: %v by %d shows %d at %d, and not %d", v, perm, x, at, y)
			}
			none, e := Transpose(w, opposite(perm))
			expect(t, "P4.7: a transpose and its opposite", none, e, v, api.OK)
		}
	}
}

func TestTwoTransposesAreOne(t *testing.T) {
	v := someViews()[4]
	for _, p := range orders(4) {
		for _, q := range orders(4) {
			one := make([]int, 4)
			for i := range one {
				one[i] = p[q[i]]
			}
			first, _ := Transpose(v, p)
			second, e := Transpose(first, q)
			want, f := Transpose(v, one)
			expect(t, "P4.7: two transposes", second, e, want, f)
		}
	}
}
