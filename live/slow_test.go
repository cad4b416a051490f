package live

import (
	"math/rand"
	"reflect"
	"testing"

	"mandrel/api"
	"mandrel/fit"
	"mandrel/sample"
)

// Held against the words of the document, of graphs of all kinds.
func TestAgainstTheWords(t *testing.T) {
	r := rand.New(rand.NewSource(1))
	met := map[string]int{}
	for i := range 3000 {
		operators := sample.All
		if i%2 == 0 {
			operators = "Neg Abs Add Sub Concat Identity"
		}
		g := sample.Graph(r.Intn, r.Intn(14), operators)
		before, apart := fit.Before(g), fit.Apart(g)
		rows, e := Before(g)
		if e != api.OK || !reflect.DeepEqual(rows, before) {
			t.Fatalf("P19.1: %v: %v, %d, not %v", g, rows, e, before)
		}
		expectOrder(t, g, rows)
		for a := range rows {
			for b := range rows {
				if a == b {
					continue
				}
				is, e := Apart(g, a, b)
				if is != apart[a][b] || e != api.OK {
					t.Fatalf("P19.2: %v: %d and %d: %t, %d", g, a, b, is, e)
				}
				met[map[bool]string{false: "together", true: "apart"}[is]]++
				if is && !rows[a][b] && !rows[b][a] {
					t.Fatalf("P19.4: %v: %d and %d are apart, and not before one another", g, a, b)
				}
				if !is && !rows[a][b] && !rows[b][a] {
					met["nothing"]++
				}
			}
		}
	}
	if met["together"] < 10000 || met["apart"] < 5000 || met["nothing"] < 10000 {
		t.Errorf("met: %v", met)
	}
}

// expectOrder is P19.4: who is before another one has a lesser number, and before goes on.
func expectOrder(t *testing.T, g api.Graph, rows [][]bool) {
	t.Helper()
	for a, row := range rows {
		for b, is := range row {
			if is && a >= b {
				t.Fatalf("P19.4: %v: %d is before %d", g, a, b)
			}
			for c := range rows {
				if is && rows[b][c] && !row[c] {
					t.Fatalf("P19.4: %v: %d is before %d, that before %d, but not before that", g, a, b, c)
				}
			}
		}
	}
}

func TestWidthAgainstTheWords(t *testing.T) {
	r := rand.New(rand.NewSource(2))
	for range 20000 {
		v := api.Value{Name: "x", Type: []int{api.Float, api.Int32, api.Int64, api.Bool}[r.Intn(4)]}
		for range r.Intn(7) {
			v.Dims = append(v.Dims, 1+r.Intn(6))
		}
		if got, e := Width(v); got != fit.Width(v) || e != api.OK {
			t.Fatalf("P19.3: %v: %d, %d", v, got, e)
		}
	}
}
