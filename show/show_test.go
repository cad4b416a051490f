package show

import (
	"slices"
	"testing"

	"mandrel/api"
	"mandrel/spell"
	"mandrel/view"
)

func TestAs(t *testing.T) {
	refused := func(api.View, []int) (api.View, api.Errno) { return api.View{}, api.ErrLimit }
	for _, c := range []struct {
		tensor  string
		turn    Turn
		numbers []int
		want    []int64
		e       api.Errno
	}{
		{"i 2 3: 1 2 3 4 5 6", view.Transpose, []int{1, 0}, []int64{1, 4, 2, 5, 3, 6}, api.OK},
		{"i 2 1: 1 2", view.Spread, []int{2, 3}, []int64{1, 1, 1, 2, 2, 2}, api.OK},
		{"i 2 2: 1 2 3 4", view.Reshape, []int{4}, []int64{1, 2, 3, 4}, api.OK},
		{"i: 7", view.Spread, nil, []int64{7}, api.OK},
		{"i 2: 1 2", view.Spread, []int{3}, nil, api.ErrGraph},
		{"i 2: 1 2", refused, nil, nil, api.ErrLimit},
		{"i 0:", view.Reshape, []int{1}, nil, api.ErrGraph},
		{"i 3: 1 2", view.Reshape, []int{3}, nil, api.ErrArg},
	} {
		got, e := As(spell.Tensor(c.tensor), c.turn, c.numbers)
		if e != c.e || !slices.Equal(got, c.want) {
			t.Errorf("%s as %d: %d, %d, not %d, %d", c.tensor, c.numbers, got, e, c.want, c.e)
		}
	}
}
