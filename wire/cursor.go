package wire

import (
	"strings"

	"mandrel/api"
)

// cursor goes along a text. Its methods panic at what is malformed, so that none of them has to hand an error on; takeVarint and takeAll recover it.
type cursor struct {
	s  string
	at int
}

func takeVarint(c cursor) (u uint64, behind int, e api.Errno) {
	defer func() {
		if recover() != nil {
			u, behind, e = 0, 0, api.ErrWire
		}
	}()
	u = c.varint()
	return u, c.at, api.OK
}

// takeAll takes items one behind the other, until the text is at its end. An item takes a byte at least, so it ends.
func takeAll[T any](s string, item func(*cursor) T) (l []T, e api.Errno) {
	defer func() {
		if recover() != nil {
			l, e = nil, api.ErrWire
		}
	}()
	c := cursor{s: s}
	for c.at < len(s) {
		l = append(l, item(&c))
	}
	return l, api.OK
}

func (c *cursor) next() byte {
	if c.at >= len(c.s) {
		panic(api.ErrWire)
	}
	b := c.s[c.at]
	c.at++
	return b
}

func (c *cursor) varint() uint64 {
	u := uint64(0)
	for i := range 9 {
		b := c.next()
		u |= uint64(b&127) << (7 * i)
		if b < 128 {
			return u
		}
	}
	// Nine groups have 63 bits: the tenth has room for one more, and none is behind it.
	b := c.next()
	if b > 1 {
		panic(api.ErrWire)
	}
	return u | uint64(b)<<63
}

func (c *cursor) fixed(n int) uint64 {
	u := uint64(0)
	for i := range n {
		u |= uint64(c.next()) << (8 * i)
	}
	return u
}

func (c *cursor) bytes() string {
	n := c.varint()
	// Held against what is left as a uint64: it may be greater than any int.
	if n > uint64(len(c.s)-c.at) {
		panic(api.ErrWire)
	}
	from := c.at
	c.at += int(n)
	// A piece of the text would keep all of it.
	return strings.Clone(c.s[from:c.at])
}

func (c *cursor) field() api.Field {
	t := c.varint()
	if t > maxTag || t>>3 == 0 {
		panic(api.ErrWire)
	}
	f := api.Field{Num: int(t >> 3), Kind: int(t & 7)}
	switch f.Kind {
	case api.WireVarint:
		f.U = c.varint()
	case api.Wire64:
		f.U = c.fixed(8)
	case api.WireBytes:
		f.B = c.bytes()
	case api.Wire32:
		f.U = c.fixed(4)
	default:
		panic(api.ErrWire)
	}
	return f
}
