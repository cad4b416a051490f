package arena

import (
	"math/rand"
	"testing"

	"mandrel/api"
	"mandrel/fit"
	"mandrel/sample"
)

// most is what nodes' values take together at most of which no two are apart, and no two are of a pair; it tries all sets of them.
func most(g api.Graph, l api.Layout) int {
	apart := fit.Apart(g)
	number := map[string]int{}
	for i, p := range l.Places {
		number[p.Name] = i
	}
	for _, p := range l.Pairs {
		young, old := number[p.New], number[p.Old]
		apart[young][old], apart[old][young] = true, true
	}
	best := 0
	var grow func(from int, taken []int, sum int)
	grow = func(from int, taken []int, sum int) {
		best = max(best, sum)
	nodes:
		for i := from; i < len(l.Places); i++ {
			for _, k := range taken {
				if apart[i][k] {
					continue nodes
				}
			}
			grow(i+1, append(taken[:len(taken):len(taken)], i), sum+fit.Rounded(l.Places[i].Len))
		}
	}
	grow(0, nil, 0)
	return best
}

// tally counts what layouts have.
func tally(met map[string]int, g api.Graph, l api.Layout) {
	apart := fit.Apart(g)
	sum := 0
	for a, p := range l.Places {
		sum += fit.Rounded(p.Len)
		if p.Len%8 != 0 {
			met["rounded"]++
		}
		for b, q := range l.Places[:a] {
			if p.At < q.At+q.Len && q.At < p.At+p.Len {
				met["meet"]++
				if p.At != q.At {
					met["meet in part"]++
				}
				if !apart[a][b] {
					met["pair"]++
				}
			}
		}
	}
	if l.Size < sum {
		met["less"]++
	}
}

// Whatever the graph, the layout fits it, and is as great as it must be.
func TestLayoutsFit(t *testing.T) {
	r := rand.New(rand.NewSource(1))
	met := map[string]int{}
	for i := range 4000 {
		operators := sample.All
		switch i % 3 {
		case 0:
			operators = "Neg Abs Add Not Equal Reshape Flatten Cast"
		case 1:
			operators = "Add Concat Slice Neg Greater ReduceSum"
		}
		g := sample.Graph(r.Intn, r.Intn(15), operators)
		l := planned(t, "a graph", g)
		greatest := 0
		for _, p := range l.Places {
			greatest = max(greatest, p.Len)
		}
		if least := most(g, l); l.Size < greatest || l.Size < least {
			t.Fatalf("P20.2: %v: %v: at least %d and %d", g, l, greatest, least)
		}
		if t.Failed() {
			t.Fatalf("%v", g)
		}
		tally(met, g, l)
	}
	for _, word := range []string{"rounded", "meet", "meet in part", "pair", "less"} {
		if met[word] < 200 {
			t.Errorf("met: %v", met)
		}
	}
}
