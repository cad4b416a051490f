package linear

import (
	"mandrel/api"
	"mandrel/attr"
	"mandrel/shape"
	"mandrel/step"
	"mandrel/view"
)

// pile is a tensor as matrices of one size, one behind the other.
type pile struct {
	ahead       []int // how many there are, in each dimension
	high, width int   // rows of a matrix, elements of a row
	data        []int64
}

func pileOf(t api.Tensor) pile {
	inner := len(t.Dims) - 2
	return pile{ahead: t.Dims[:inner], high: t.Dims[inner], width: t.Dims[inner+1], data: t.Data}
}

// spread are the numbers of the matrices that stand at all places of greater dims.
func (p pile) spread(dims []int) []int64 {
	count, _ := shape.Count(p.ahead)
	return shown(api.Tensor{Dims: p.ahead, Data: attr.UpTo(count)}, view.Spread, dims)
}

// block is the matrix number i: its rows are pieces of the piece of all elements that it is.
func (p pile) block(i int64) block {
	size := p.high * p.width
	piece := p.data[int(i)*size:][:size]
	rows := make(block, p.high)
	for r := range rows {
		rows[r] = piece[r*p.width:][:p.width]
	}
	return rows
}

// block is a matrix, or a turned one, whose rows are the other's columns.
type block [][]int64

// times is the product by a matrix whose columns are given, row by row.
func (b block) times(columns block) []int64 {
	data := make([]int64, 0, len(b)*len(columns))
	for _, row := range b {
		for _, column := range columns {
			data = append(data, product(row, column))
		}
	}
	return data
}

// product begins with +0, and goes from the first place to the last: the order tells in the bits.
func product(row, column []int64) int64 {
	add, mul := step.Two("Add", api.Float), step.Two("Mul", api.Float)
	sum := int64(0)
	for k, x := range row {
		sum = add(sum, mul(x, column[k]))
	}
	return sum
}
