package spell

import "slices"

// Size is how many elements dims have.
func Size(dims []int) int {
	n := 1
	for _, d := range dims {
		n *= d
	}
	return n
}

// Coords are those of the element number i.
func Coords(dims []int, i int) []int {
	c := make([]int, len(dims))
	for k := range dims {
		c[k] = i / Size(dims[k+1:]) % dims[k]
	}
	return c
}

// Narrowed are dims that are spread to others: some are 1 or, from the front on, not there. pick takes one of the numbers ahead of its own.
func Narrowed(dims []int, pick func(int) int) []int {
	l := slices.Clone(dims)
	for i := range l {
		if pick(3) == 0 {
			l[i] = 1
		}
	}
	return l[pick(len(l)+1)*pick(2):]
}
