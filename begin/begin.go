// Package begin has what every layer that does nodes, runs graphs, or makes other graphs of them, begins with.
package begin

import (
	"slices"

	"mandrel/api"
	"mandrel/infer"
	"mandrel/pb"
)

// Work makes the elements of what comes out of a node, whose type and dims are known; it knows which operators are the layer's.
type Work func(n api.Node, in []api.Tensor, out api.Value) ([]int64, api.Errno)

// Do does a node whose elements a layer makes.
func Do(n api.Node, in []api.Tensor, work Work) (api.Tensor, api.Errno) {
	out, e := Node(n, in)
	if e != api.OK {
		return api.Tensor{}, e
	}
	data, e := work(n, in, out)
	if e != api.OK {
		return api.Tensor{}, e
	}
	return api.Tensor{Type: out.Type, Dims: out.Dims, Data: data}, api.OK
}

// Node is the type and the dims of what a node makes of tensors, or the error with which it begins.
func Node(n api.Node, in []api.Tensor) (api.Value, api.Errno) {
	var values []api.Value
	for _, t := range in {
		if pb.Check(t) != api.OK {
			return api.Value{}, api.ErrArg
		}
		values = append(values, api.Value{Type: t.Type, Dims: t.Dims})
	}
	return infer.Out(n, values)
}

// Fit tells whether tensors are such as a graph with these inputs takes.
func Fit(inputs []api.Value, in []api.Tensor) bool {
	if len(in) != len(inputs) {
		return false
	}
	for i, t := range in {
		if pb.Check(t) != api.OK || t.Type != inputs[i].Type || !slices.Equal(t.Dims, inputs[i].Dims) {
			return false
		}
	}
	return true
}
