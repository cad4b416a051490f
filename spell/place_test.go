package spell

import (
	"slices"
	"testing"
)

func TestCoords(t *testing.T) {
	if Size(nil) != 1 || Size([]int{2, 3, 4}) != 24 {
		t.Errorf("sizes %d, %d", Size(nil), Size([]int{2, 3, 4}))
	}
	for i, want := range [][]int{{0, 0}, {0, 1}, {0, 2}, {1, 0}, {1, 1}, {1, 2}} {
		if got := Coords([]int{2, 3}, i); !slices.Equal(got, want) {
			t.Errorf("element %d of 2 3: %d", i, got)
		}
	}
}

func TestNarrowed(t *testing.T) {
	dims := []int{2, 3, 4}
	for _, c := range []struct {
		picks []int
		want  []int
	}{
		{[]int{1, 2, 1, 3, 0}, []int{2, 3, 4}},
		{[]int{0, 1, 0, 0, 1}, []int{1, 3, 1}},
		{[]int{1, 0, 1, 1, 1}, []int{1, 4}},
		{[]int{1, 0, 1, 3, 1}, nil},
	} {
		at := 0
		pick := func(int) int { at++; return c.picks[at-1] }
		if got := Narrowed(dims, pick); !slices.Equal(got, c.want) || !slices.Equal(dims, []int{2, 3, 4}) {
			t.Errorf("by %d: %d", c.picks, got)
		}
	}
}
