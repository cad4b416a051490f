package spell

import (
	"reflect"
	"testing"

	"mandrel/api"
)

func TestLayout(t *testing.T) {
	for text, want := range map[string]api.Layout{
		"0||":               {},
		"-8 | |":            {Size: -8},
		"16 | a 0 8, b 8 5": {},
		"16 | a 0 8, b 8 5|": {
			Size:   16,
			Places: []api.Place{{Name: "a", Len: 8}, {Name: "b", At: 8, Len: 5}},
		},
		"8 | a 0 8, b 0 8, c -8 1 | b a, c b": {
			Size:   8,
			Places: []api.Place{{Name: "a", Len: 8}, {Name: "b", Len: 8}, {Name: "c", At: -8, Len: 1}},
			Pairs:  []api.Pair{{New: "b", Old: "a"}, {New: "c", Old: "b"}},
		},
		"8 | a 0 |":       {},
		"8 | a 0 8 8 |":   {},
		"8 | | a":         {},
		"8 | | a b c":     {},
		"x | |":           {},
		"8 | a b c |":     {},
		"8 | a 0 8 | | |": {},
	} {
		// What has no layout here can't be read.
		wrong := want.Size == 0 && text != "0||"
		if got, panics := layoutOf(text); panics != wrong || !reflect.DeepEqual(got, want) {
			t.Errorf("%q: %v, panics: %t", text, got, panics)
		}
	}
}

func layoutOf(text string) (l api.Layout, panics bool) {
	defer func() { panics = recover() != nil }()
	return Layout(text), false
}
