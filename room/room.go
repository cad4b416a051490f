// Package room tells how many bytes values take in an arena, for the layers that lay them there, or ask where they lie.
package room

import (
	"mandrel/api"
	"mandrel/live"
)

// Of are the bytes of each of some values that may be, and of all together, each rounded up.
func Of(values []api.Value) ([]int, int) {
	lens := make([]int, len(values))
	all := 0
	for i, v := range values {
		// What infer has found has a width.
		lens[i], _ = live.Width(v)
		all += Up(lens[i])
	}
	return lens, all
}

// Up is a number of bytes, up to where the next value may begin.
func Up(length int) int {
	return (length + api.Align - 1) / api.Align * api.Align
}
