package view

import (
	"slices"
	"testing"

	"mandrel/api"
)

// guarded is a list within a longer one, whose spare room must stay as it is too.
func guarded[T int | int64](l ...T) []T {
	room := append(slices.Clone(l), 91, 92, 93, 94, 95, 96, 97)
	return room[:len(l)]
}

func spare[T any](l []T) []T { return l[:cap(l)] }

// spoil overwrites a list and its spare room.
func spoil[T int | int64](l []T) {
	for i := range spare(l) {
		spare(l)[i] = -77
	}
}

func copyOf(v api.View) api.View {
	return viewOf(v.Off, slices.Clone(v.Dims), slices.Clone(v.Strides))
}

func turns() map[string]func(v api.View, l []int) api.View {
	return map[string]func(v api.View, l []int) api.View{
		"Whole":     func(v api.View, l []int) api.View { w, _ := Whole(l); return w },
		"Transpose": func(v api.View, l []int) api.View { w, _ := Transpose(v, l); return w },
		"Slice":     func(v api.View, l []int) api.View { w, _ := Slice(v, 0, 0, 1); return w },
		"Spread":    func(v api.View, l []int) api.View { w, _ := Spread(v, l); return w },
		"Reshape":   func(v api.View, l []int) api.View { w, _ := Reshape(v, l); return w },
	}
}

func TestMemoryOfViews(t *testing.T) {
	whole, turned, one := viewOf(3, []int{2, 3}, []int{3, 1}), viewOf(3, []int{2, 3}, []int{1, 2}), viewOf(3, nil, nil)
	for name, call := range turns() {
		for _, v := range []api.View{whole, turned, one} {
			for _, l := range [][]int{nil, {0}, {0, 1}, {1, 0}, {2, 3}, {3, 2}, {4, 2, 3}, {1, 1}} {
				v := viewOf(v.Off, guarded(v.Dims...), guarded(v.Strides...))
				g := guarded(l...)
				oldDims, oldStrides, oldL := slices.Clone(spare(v.Dims)), slices.Clone(spare(v.Strides)), slices.Clone(spare(g))
				got := call(v, g)
				want := copyOf(got)
				spoil(got.Dims)
				if !slices.Equal(got.Strides, want.Strides) {
					t.Errorf("R5: %s of %v, %d: two lists of one answer share memory", name, v, l)
				}
				spoil(got.Strides)
				if !slices.Equal(spare(v.Dims), oldDims) || !slices.Equal(spare(v.Strides), oldStrides) || !slices.Equal(spare(g), oldL) {
					t.Errorf("R5: %s of %v, %d changes them, or shares their memory", name, v, l)
				}
				if again := call(v, g); !same(again, want) {
					t.Errorf("R6: %s of %v, %d: %v, and then %v", name, v, l, want, again)
				}
			}
		}
	}
}

func TestMemoryOfRead(t *testing.T) {
	for _, v := range []api.View{viewOf(0, []int{2, 3}, []int{3, 1}), viewOf(0, []int{6}, []int{1}), viewOf(2, nil, nil), viewOf(0, []int{7}, []int{1})} {
		v := viewOf(v.Off, guarded(v.Dims...), guarded(v.Strides...))
		data := guarded[int64](5, 6, 7, 8, 9, 10)
		oldDims, oldStrides, oldData := slices.Clone(spare(v.Dims)), slices.Clone(spare(v.Strides)), slices.Clone(spare(data))
		got, _ := Read(v, data)
		want := slices.Clone(got)
		spoil(got)
		if !slices.Equal(spare(v.Dims), oldDims) || !slices.Equal(spare(v.Strides), oldStrides) || !slices.Equal(spare(data), oldData) {
			t.Errorf("R5: Read of %v changes what it is given, or shares its memory", v)
		}
		if again, _ := Read(v, data); !slices.Equal(again, want) {
			t.Errorf("R6: Read of %v: %d, and then %d", v, want, again)
		}
	}
}
