package fit

import (
	"slices"
	"strings"

	"mandrel/api"
)

// tries of a layout by picks, until the wide one is taken.
const tries = 20

// Some is a layout that fits a graph that may be, as a function picks it of numbers ahead of another one: values lie anywhere where they may, and take one another's places or not.
func Some(pick func(int) int, g api.Graph) api.Layout {
	wide := Wide(g)
	c := checker{g: g, nodes: Nodes(g), values: Values(g), before: Before(g)}
	for range tries {
		if l, ok := c.someLayout(pick, wide.Size); ok {
			return l
		}
	}
	return wide
}

// someLayout lays one value behind the other, often in less room than there is; false, if there is none left for one of them.
func (c checker) someLayout(pick func(int) int, most int) (api.Layout, bool) {
	end, limit := 0, most-8*pick(most/16+1)
	for i, v := range c.values {
		p := api.Place{Name: v.Name, Len: Width(v)}
		old := slices.IndexFunc(c.l.Places, func(p api.Place) bool { return c.mayTake(i, p.Name) })
		if old >= 0 && pick(2) == 0 {
			p.At = c.l.Places[old].At
			c.l.Pairs = append(c.l.Pairs, api.Pair{New: v.Name, Old: c.l.Places[old].Name})
		} else {
			free := c.freeFor(p, limit)
			if len(free) == 0 {
				return api.Layout{}, false
			}
			p.At = free[pick(len(free))]
		}
		c.l.Places = append(c.l.Places, p)
		end = max(end, p.At+Rounded(p.Len))
	}
	c.l.Size = end + 8*pick((most-end)/8+1)
	return c.l, true
}

// mayTake tells whether the value number i may take the place of one ahead of it.
func (c checker) mayTake(i int, old string) bool {
	n := c.nodes[i]
	if !slices.Contains(strings.Fields(inPlace), n.Op) || n.In[0] != old || isOutput(c.g, old) {
		return false
	}
	for r, reader := range c.nodes {
		if r != i && slices.Contains(reader.In, old) && !c.before[r][i] {
			return false
		}
	}
	return true
}

// freeFor is where the next value may lie, without meeting one that is not apart from it.
func (c checker) freeFor(p api.Place, limit int) []int {
	var l []int
	b := len(c.l.Places)
	for p.At = 0; p.At+p.Len <= limit; p.At += 8 {
		meets := false
		for a, q := range c.l.Places {
			apart := doneAhead(c.g, c.nodes, c.before, a, b) || doneAhead(c.g, c.nodes, c.before, b, a)
			meets = meets || !apart && p.At < q.At+q.Len && q.At < p.At+p.Len
		}
		if !meets {
			l = append(l, p.At)
		}
	}
	return l
}
