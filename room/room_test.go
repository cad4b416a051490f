package room

import (
	"slices"
	"testing"

	"mandrel/api"
	"mandrel/spell"
)

func TestRoom(t *testing.T) {
	for length, want := range map[int]int{0: 0, 1: 8, 7: 8, 8: 8, 9: 16, 16: 16, 524287: 524288, 524288: 524288} {
		if got := Up(length); got != want {
			t.Errorf("%d: up to %d, not %d", length, got, want)
		}
	}
	for _, c := range []struct {
		values []string
		lens   []int
		all    int
	}{
		{nil, nil, 0},
		{[]string{"x f"}, []int{4}, 8},
		{[]string{"x b 3", "y l 2", "z i 3", "w f 65536"}, []int{3, 16, 12, 262144}, 262184},
	} {
		var values []api.Value
		for _, text := range c.values {
			values = append(values, spell.Value(text))
		}
		if lens, all := Of(values); !slices.Equal(lens, c.lens) || all != c.all {
			t.Errorf("%q: %d, %d in all", c.values, lens, all)
		}
	}
}
