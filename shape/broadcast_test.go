package shape

import (
	"math"
	"slices"
	"testing"

	"mandrel/api"
)

func TestBroadcast(t *testing.T) {
	for _, c := range []struct {
		a, b, want []int
		e          api.Errno
	}{
		{nil, nil, nil, api.OK},
		{nil, []int{3}, []int{3}, api.OK},
		{nil, []int{2, 3}, []int{2, 3}, api.OK},
		{[]int{1}, []int{1}, []int{1}, api.OK},
		{[]int{3}, []int{1}, []int{3}, api.OK},
		{[]int{2, 3}, []int{2, 3}, []int{2, 3}, api.OK},
		{[]int{2, 1, 3}, []int{4, 1}, []int{2, 4, 3}, api.OK},
		{[]int{3}, []int{2, 1, 1}, []int{2, 1, 3}, api.OK},
		{[]int{1, 1, 1, 1, 1, 1}, []int{5}, []int{1, 1, 1, 1, 1, 5}, api.OK},
		{[]int{256, 1}, []int{256}, []int{256, 256}, api.OK},
		{[]int{65536}, []int{1}, []int{65536}, api.OK},
		{[]int{2}, []int{3}, nil, api.ErrGraph},
		{[]int{2, 3}, []int{2}, nil, api.ErrGraph},
		{[]int{2, 3}, []int{3, 2}, nil, api.ErrGraph},
		{[]int{4, 2}, []int{2, 1}, nil, api.ErrGraph},
		{[]int{256, 1}, []int{257}, nil, api.ErrLimit},
		{[]int{65536, 1}, []int{2}, nil, api.ErrLimit},
		{[]int{65536, 1}, []int{65536}, nil, api.ErrLimit},
		{[]int{1, 1, 1, 1, 65536, 1}, []int{65536}, nil, api.ErrLimit},
		// R2: unlike ones are named ahead of a product too great.
		{[]int{256, 1, 2}, []int{257, 3}, nil, api.ErrGraph},
		{[]int{2, 256, 1}, []int{3, 1, 257}, nil, api.ErrGraph},
	} {
		for _, p := range [][2][]int{{c.a, c.b}, {c.b, c.a}} {
			if l, e := Broadcast(p[0], p[1]); !slices.Equal(l, c.want) || e != c.e {
				t.Errorf("P3.2: Broadcast of %d, %d: %d, %d, not %d, %d", p[0], p[1], l, e, c.want, c.e)
			}
		}
	}
}

// R2: Count's error of the first one, then of the second one, then what only both have.
func TestBroadcastOfWrongOnes(t *testing.T) {
	for _, c := range wrongDims() {
		for _, good := range goodDims() {
			if l, e := Broadcast(c.dims, good); len(l) != 0 || e != c.e {
				t.Errorf("P3.2: Broadcast of %d, %d: %d, %d, not %d", c.dims, good, l, e, c.e)
			}
			if l, e := Broadcast(good, c.dims); len(l) != 0 || e != c.e {
				t.Errorf("P3.2: Broadcast of %d, %d: %d, %d, not %d", good, c.dims, l, e, c.e)
			}
		}
		for _, d := range wrongDims() {
			if l, e := Broadcast(c.dims, d.dims); len(l) != 0 || e != c.e {
				t.Errorf("P3.2: Broadcast of %d, %d: %d, %d, not %d", c.dims, d.dims, l, e, c.e)
			}
		}
	}
}

func TestBroadcastOfThree(t *testing.T) {
	list := goodDims()
	list = append(list, []int{1, 3}, []int{2, 1}, []int{2, 1, 1}, []int{257}, []int{256, 1})
	for _, a := range list {
		for _, b := range list {
			ab, e := Broadcast(a, b)
			ba, f := Broadcast(b, a)
			if e != f || !slices.Equal(ab, ba) {
				t.Errorf("P3.5: Broadcast of %d, %d: %d, %d, and in the other order %d, %d", a, b, ab, e, ba, f)
			}
			for _, c := range list {
				bc, f := Broadcast(b, c)
				left, right := then(ab, c, e), then(bc, a, f)
				if !slices.Equal(left, right) {
					t.Errorf("P3.5: Broadcast of %d, %d, %d: %d and %d", a, b, c, left, right)
				}
			}
		}
	}
}

// then spreads what was spread without an error once more; an error is a list that no dimensions are.
func then(a, b []int, e api.Errno) []int {
	if e == api.OK {
		if a, e = Broadcast(a, b); e == api.OK {
			return a
		}
	}
	return []int{-1}
}

// guarded is a list within a longer one, whose spare room must stay as it is too.
func guarded(l ...int) []int {
	room := append(slices.Clone(l), 91, 92, 93, 94, 95, 96, 97)
	return room[:len(l)]
}

func spare(l []int) []int { return l[:cap(l)] }

// spoil overwrites a list and its spare room.
func spoil(l []int) {
	for i := range spare(l) {
		spare(l)[i] = math.MinInt
	}
}

func TestMemory(t *testing.T) {
	calls := map[string]func(a, b []int) []int{
		"Broadcast": func(a, b []int) []int { l, _ := Broadcast(a, b); return l },
		"Strides":   func(a, b []int) []int { l, _ := Strides(a); return l },
		"Coords":    func(a, b []int) []int { l, _ := Coords(a, 1); return l },
		"Count":     func(a, b []int) []int { Count(a); return nil },
		"Offset":    func(a, b []int) []int { Offset(a, b); return nil },
	}
	for name, call := range calls {
		for _, p := range [][2][]int{{{2, 3}, {2, 3}}, {{2, 3}, nil}, {{2, 3}, {1, 1}}, {{2, 1}, {3}}, {nil, {4}}, {nil, nil}, {{3}, {2, 2}}, {{0}, {2}}} {
			a, b := guarded(p[0]...), guarded(p[1]...)
			oldA, oldB := slices.Clone(spare(a)), slices.Clone(spare(b))
			got := call(a, b)
			want := slices.Clone(got)
			spoil(got)
			if !slices.Equal(spare(a), oldA) || !slices.Equal(spare(b), oldB) {
				t.Errorf("R5: %s of %d, %d changes them, or shares their memory", name, p[0], p[1])
			}
			if again := call(a, b); !slices.Equal(again, want) {
				t.Errorf("R6: %s of %d, %d: %d, and then %d", name, p[0], p[1], want, again)
			}
		}
	}
}
