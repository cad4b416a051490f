package num

import (
	"math"

	"mandrel/api"
)

// wrap brings a number of 64 bits, wrapped round already, to those of a type of whole numbers.
func wrap(typ int, x int64) int64 {
	if typ == api.Int32 {
		return int64(int32(x))
	}
	return x
}

func unaryInt(op string, typ int, x int64) (int64, api.Errno) {
	switch op {
	case "Neg":
		return wrap(typ, -x), api.OK
	case "Abs":
		if x < 0 {
			return wrap(typ, -x), api.OK
		}
		return x, api.OK
	}
	return 0, api.ErrArg
}

func binaryInt(op string, typ int, x, y int64) (int64, api.Errno) {
	if op == "Div" {
		if y == 0 {
			return 0, api.ErrDivide
		}
		return wrap(typ, x/y), api.OK
	}
	if z, ok := arithmetic(op, x, y); ok {
		return wrap(typ, z), api.OK
	}
	return compare(op, x, y)
}

func unaryBool(op string, x int64) (int64, api.Errno) {
	if op == "Not" {
		return 1 - x, api.OK
	}
	return 0, api.ErrArg
}

func binaryBool(op string, x, y int64) (int64, api.Errno) {
	switch op {
	case "And":
		return x & y, api.OK
	case "Or":
		return x | y, api.OK
	case "Xor":
		return x ^ y, api.OK
	case "Equal":
		return truth(x == y), api.OK
	}
	return 0, api.ErrArg
}

func floatToInt(typ int, f float32) int64 {
	least, greatest := int64(math.MinInt64), int64(math.MaxInt64)
	if typ == api.Int32 {
		least, greatest = math.MinInt32, math.MaxInt32
	}
	// The least one is a float, the greatest one is not, but one more is: the least one turned.
	low := float64(least)
	d := float64(f)
	switch {
	case d != d:
		return 0
	case d < low:
		return least
	case d >= -low:
		return greatest
	}
	return int64(d)
}
