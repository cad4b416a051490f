package sched

import (
	"mandrel/api"
	"mandrel/live"
	"mandrel/num"
)

// Put writes elements as bytes, the lowest eight bits of each first.
func Put(typ int, data []int64) ([]byte, api.Errno) {
	each := bytesOf(typ)
	b := make([]byte, 0, each*len(data))
	for _, x := range data {
		if !num.Check(typ, x) {
			return nil, api.ErrArg
		}
		for i := range each {
			b = append(b, byte(x>>(8*i)))
		}
	}
	return b, api.OK
}

// Get reads elements out of bytes.
func Get(typ int, b []byte) ([]int64, api.Errno) {
	each := bytesOf(typ)
	if each == 0 || len(b)%each != 0 {
		return nil, api.ErrArg
	}
	data := make([]int64, len(b)/each)
	for i := range data {
		x := number(typ, b[i*each:(i+1)*each])
		if !num.Check(typ, x) {
			return nil, api.ErrArg
		}
		data[i] = x
	}
	return data, api.OK
}

// number is what some bytes stand for, whether it is an element or not.
func number(typ int, b []byte) int64 {
	var bits uint64
	for i, x := range b {
		bits |= uint64(x) << (8 * i)
	}
	if typ == api.Int32 {
		return int64(int32(bits))
	}
	return int64(bits)
}

// bytesOf are those of one element of a type; 0, if it is none.
func bytesOf(typ int) int {
	each, _ := live.Width(api.Value{Type: typ})
	return each
}
