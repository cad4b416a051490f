// Package wire is layer 1, the wire: see shared/doc/01-wire.md.
package wire

import (
	"math/bits"

	"mandrel/api"
)

const (
	maxNum = 1<<29 - 1 // the greatest number of a field
	maxTag = 1<<32 - 1 // the greatest number ahead of a field
)

// Varint writes a number, TakeVarint reads one that begins at a place; and the place behind it.
func Varint(u uint64) string { return string(appendVarint(nil, u)) }

func TakeVarint(s string, at int) (uint64, int, api.Errno) {
	if at < 0 || at > len(s) {
		return 0, 0, api.ErrArg
	}
	return takeVarint(cursor{s: s, at: at})
}

// Fields takes a message apart, Write puts one together.
func Fields(s string) ([]api.Field, api.Errno) {
	if len(s) > api.MaxBytes {
		return nil, api.ErrLimit
	}
	return takeAll(s, (*cursor).field)
}

func Write(l []api.Field) (string, api.Errno) {
	for _, f := range l {
		if !writable(f) {
			return "", api.ErrArg
		}
	}
	size := 0
	for _, f := range l {
		size += fieldLength(f)
		if size > api.MaxBytes {
			return "", api.ErrLimit
		}
	}
	b := make([]byte, 0, size)
	for _, f := range l {
		b = appendField(b, f)
	}
	return string(b), api.OK
}

// Packed takes packed numbers apart.
func Packed(s string) ([]uint64, api.Errno) { return takeAll(s, (*cursor).varint) }

func appendVarint(b []byte, u uint64) []byte {
	for u >= 128 {
		b = append(b, byte(u)|128)
		u >>= 7
	}
	return append(b, byte(u))
}

func varintLength(u uint64) int {
	// Nought has one group, too.
	return (bits.Len64(u|1) + 6) / 7
}

func writable(f api.Field) bool {
	if f.Num < 1 || f.Num > maxNum {
		return false
	}
	switch f.Kind {
	case api.WireVarint, api.Wire64:
		return f.B == ""
	case api.Wire32:
		return f.B == "" && f.U < 1<<32
	case api.WireBytes:
		return f.U == 0
	}
	return false
}

func tag(f api.Field) uint64 { return uint64(f.Num)<<3 | uint64(f.Kind) }

func fieldLength(f api.Field) int {
	n := varintLength(tag(f))
	switch f.Kind {
	case api.WireVarint:
		return n + varintLength(f.U)
	case api.Wire64:
		return n + 8
	case api.Wire32:
		return n + 4
	}
	return n + varintLength(uint64(len(f.B))) + len(f.B)
}

func appendField(b []byte, f api.Field) []byte {
	b = appendVarint(b, tag(f))
	switch f.Kind {
	case api.WireVarint:
		return appendVarint(b, f.U)
	case api.Wire64:
		return appendFixed(b, f.U, 8)
	case api.Wire32:
		return appendFixed(b, f.U, 4)
	}
	b = appendVarint(b, uint64(len(f.B)))
	return append(b, f.B...)
}

func appendFixed(b []byte, u uint64, n int) []byte {
	for i := range n {
		b = append(b, byte(u>>(8*i)))
	}
	return b
}
