package arena

import (
	"cmp"
	"slices"

	"mandrel/api"
	"mandrel/room"
)

// gap is a row of bytes in which a value may lie.
type gap struct{ at, room int }

// bestPlace is in the least gap that has room, or behind all that must stay. So an arena never grows by more than the value takes.
func (p *plan) bestPlace(i, length int) int {
	gaps, end := gapsBetween(p.staying(i), p.Size)
	best := slices.IndexFunc(gaps, func(g gap) bool { return g.room >= length })
	if best < 0 {
		return end
	}
	return gaps[best].at
}

// staying are the places of values that are not apart from the one of a node.
func (p *plan) staying(i int) []api.Place {
	var l []api.Place
	for k, place := range p.Places {
		if !p.nodes.Apart(p.before, k, i) {
			l = append(l, place)
		}
	}
	return l
}

// gapsBetween are the gaps that places leave of an arena of a size, the least one first, and where the last place ends.
func gapsBetween(places []api.Place, size int) ([]gap, int) {
	slices.SortFunc(places, func(a, b api.Place) int { return cmp.Compare(a.At, b.At) })
	var gaps []gap
	end := 0
	for _, place := range places {
		if place.At > end {
			gaps = append(gaps, gap{end, place.At - end})
		}
		end = max(end, place.At+room.Up(place.Len))
	}
	if size > end {
		gaps = append(gaps, gap{end, size - end})
	}
	// Of gaps with the same room the first one stays ahead.
	slices.SortStableFunc(gaps, func(a, b gap) int { return cmp.Compare(a.room, b.room) })
	return gaps, end
}
