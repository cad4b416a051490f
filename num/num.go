// Package num is layer 2, elements: see shared/doc/02-num.md.
package num

import "mandrel/api"

// Check tells whether a number is one of a type's elements.
func Check(typ int, x int64) bool {
	switch typ {
	case api.Float:
		return x >= 0 && x < 1<<32 && (x == api.NaN || x&^signBit <= infinity)
	case api.Int32:
		return x == int64(int32(x))
	case api.Int64:
		return true
	case api.Bool:
		return x == 0 || x == 1
	}
	return false
}

// Unary is what an operator of one makes of an element.
func Unary(op string, typ int, x int64) (int64, api.Errno) {
	if !Check(typ, x) {
		return 0, api.ErrArg
	}
	if op == "Identity" {
		return x, api.OK
	}
	switch typ {
	case api.Float:
		return unaryFloat(op, fromBits(x))
	case api.Int32, api.Int64:
		return unaryInt(op, typ, x)
	}
	return unaryBool(op, x)
}

// Binary is what an operator of two makes of two elements of one type.
func Binary(op string, typ int, x int64, y int64) (int64, api.Errno) {
	if !Check(typ, x) || !Check(typ, y) {
		return 0, api.ErrArg
	}
	switch typ {
	case api.Float:
		return binaryFloat(op, fromBits(x), fromBits(y))
	case api.Int32, api.Int64:
		return binaryInt(op, typ, x, y)
	}
	return binaryBool(op, x, y)
}

// Cast turns an element into one of another type.
func Cast(from int, to int, x int64) (int64, api.Errno) {
	if !Check(from, x) || !isType(to) {
		return 0, api.ErrArg
	}
	switch {
	case from == to:
		return x, api.OK
	case from == api.Float && to == api.Bool:
		return truth(fromBits(x) != 0), api.OK
	case from == api.Float:
		return floatToInt(to, fromBits(x)), api.OK
	case to == api.Bool:
		return truth(x != 0), api.OK
	case to == api.Float:
		// Straight to 32 bits: by way of 64 it would be rounded twice.
		return toBits(float32(x)), api.OK
	}
	return wrap(to, x), api.OK
}

func isType(typ int) bool {
	return typ == api.Float || typ == api.Int32 || typ == api.Int64 || typ == api.Bool
}

func truth(b bool) int64 {
	if b {
		return 1
	}
	return 0
}

// arithmetic is what floats and whole numbers have alike. The language's own max and min have the NaN and the zeros as they are to be.
func arithmetic[T int64 | float32](op string, x, y T) (T, bool) {
	switch op {
	case "Add":
		return x + y, true
	case "Sub":
		return x - y, true
	case "Mul":
		return x * y, true
	case "Max":
		return max(x, y), true
	case "Min":
		return min(x, y), true
	}
	return 0, false
}

func compare[T int64 | float32](op string, x, y T) (int64, api.Errno) {
	switch op {
	case "Equal":
		return truth(x == y), api.OK
	case "Less":
		return truth(x < y), api.OK
	case "Greater":
		return truth(x > y), api.OK
	}
	return 0, api.ErrArg
}
