package fit

import (
	"math/rand"
	"reflect"
	"testing"

	"mandrel/sample"
)

// Whatever is picked, a layout fits, and layouts of all kinds are met.
func TestSome(t *testing.T) {
	r := rand.New(rand.NewSource(1))
	met := map[string]int{}
	for range 1000 {
		g := sample.Graph(r.Intn, r.Intn(10), "Neg Add Reshape Cast Not Slice Equal")
		l := Some(r.Intn, g)
		if broken := Broken(g, l); len(broken) > 0 {
			t.Fatalf("%v does not fit %v: %q", l, g, broken)
		}
		end := 0
		for i, p := range l.Places {
			end = max(end, p.At+Rounded(p.Len))
			for _, q := range l.Places[:i] {
				if p.At < q.At+q.Len && q.At < p.At+p.Len {
					met["meet"]++
				}
				if p.At < q.At {
					met["ahead"]++
				}
			}
		}
		met["pairs"] += len(l.Pairs)
		if l.Size > end {
			met["free at the end"]++
		}
		if len(l.Places) > 1 && reflect.DeepEqual(l, Wide(g)) {
			met["wide"]++
		}
	}
	for _, word := range []string{"meet", "ahead", "pairs", "free at the end"} {
		if met[word] < 100 {
			t.Errorf("met: %v", met)
		}
	}
	if met["wide"] > 300 {
		t.Errorf("met: %v", met)
	}
}
