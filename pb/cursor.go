package pb

import (
	"math"

	"mandrel/api"
	"mandrel/num"
	"mandrel/wire"
)

// cursor goes along the fields of a message, and stops at what is malformed.
type cursor struct {
	field api.Field // the one that it stands at
	rest  []api.Field
}

func open(s string) *cursor {
	l, e := wire.Fields(s)
	stop(e)
	return &cursor{rest: l}
}

func (c *cursor) next() bool {
	if len(c.rest) == 0 {
		return false
	}
	c.field, c.rest = c.rest[0], c.rest[1:]
	return true
}

func (c *cursor) must(kind int) {
	stopIf(c.field.Kind != kind, api.ErrWire)
}

func (c *cursor) text() string {
	c.must(api.WireBytes)
	return c.field.B
}

func (c *cursor) number() int64 {
	c.must(api.WireVarint)
	return int64(c.field.U)
}

func (c *cursor) float() int64 {
	c.must(api.Wire32)
	return oneNaN(int64(c.field.U))
}

// numbers puts what the field has, one number or packed ones, behind others.
func (c *cursor) numbers(l []int64) []int64 {
	if c.field.Kind != api.WireBytes {
		return append(l, c.number())
	}
	packed, e := wire.Packed(c.field.B)
	stop(e)
	for _, u := range packed {
		l = append(l, int64(u))
	}
	return l
}

// floats does the same of floats.
func (c *cursor) floats(l []int64) []int64 {
	if c.field.Kind != api.WireBytes {
		return append(l, c.float())
	}
	stopIf(len(c.field.B)%4 != 0, api.ErrWire)
	return append(l, elements(api.Float, c.field.B)...)
}

// oneNaN makes an element of 32 bits: they are none just if they are another NaN than the one.
func oneNaN(bits int64) int64 {
	if !num.Check(api.Float, bits) {
		return api.NaN
	}
	return bits
}

// toInt is the nearest int: what an int has no room for is as wrong as the nearest one, wherever it stands.
func toInt(x int64) int {
	return int(max(math.MinInt, min(math.MaxInt, x)))
}

func toInts(l []int64) []int {
	ints := make([]int, len(l))
	for i, x := range l {
		ints[i] = toInt(x)
	}
	return ints
}
