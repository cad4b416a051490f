// Package show reads tensors by views, for all layers that go through elements in another order than they stand in.
package show

import (
	"mandrel/api"
	"mandrel/view"
)

// Turn makes another view of one, as dims or an order of dimensions ask for it.
type Turn func(v api.View, numbers []int) (api.View, api.Errno)

// As are a tensor's elements, gone through by another view of it.
func As(t api.Tensor, turn Turn, numbers []int) ([]int64, api.Errno) {
	v, e := view.Whole(t.Dims)
	if e != api.OK {
		return nil, e
	}
	if v, e = turn(v, numbers); e != api.OK {
		return nil, e
	}
	return view.Read(v, t.Data)
}
