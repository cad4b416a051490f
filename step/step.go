// Package step has num's steps as functions, for layers that do many of them one by one.
package step

import "mandrel/num"

// One makes an element of one of a type. Its caller has elements that may be and an operator that is for them: there is no error to tell.
func One(op string, typ int) func(x int64) int64 {
	return func(x int64) int64 {
		y, _ := num.Unary(op, typ, x)
		return y
	}
}

// Two makes an element of two of a type. Its caller has elements that may be and an operator that is for them, and divides Floats alone: there is no error to tell.
func Two(op string, typ int) func(x, y int64) int64 {
	return func(x, y int64) int64 {
		z, _ := num.Binary(op, typ, x, y)
		return z
	}
}
