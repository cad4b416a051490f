package infer

import (
	"mandrel/api"
	"mandrel/attr"
	"mandrel/schema"
)

const maxWindow = 100 // of a stride, a dilation, a pad, a pool's kernel

func convolved(n api.Node, in []api.Value) []int {
	x, w := in[0].Dims, in[1].Dims
	must(len(x) == 4 && len(w) == 4)
	if len(in) == 3 {
		must(len(in[2].Dims) == 1 && in[2].Dims[0] == w[0])
	}
	group := schema.Int(n, "group", 1)
	must(group >= 1)
	channels := int64(x[1])
	must(channels%group == 0 && int64(w[0])%group == 0 && channels/group == int64(w[1]))
	kernel := []int64{int64(w[2]), int64(w[3])}
	return []int{x[0], w[0], placesOf(n, x, kernel, 0), placesOf(n, x, kernel, 1)}
}

func pooled(n api.Node, x []int) []int {
	must(len(x) == 4)
	kernel := within(schema.Ints(n, "kernel_shape", nil), 2, 1)
	for i, p := range padsOf(n) {
		must(p < kernel[i%2])
	}
	return []int{x[0], x[1], placesOf(n, x, kernel, 0), placesOf(n, x, kernel, 1)}
}

// placesOf is at how many places the kernel stands along the height (0) or the width (1). Pools have no dilations, so that the default ones count.
func placesOf(n api.Node, x []int, kernel []int64, along int) int {
	stride := within(attr.Strides(n), 2, 1)[along]
	dilation := within(attr.Dilations(n), 2, 1)[along]
	pads := padsOf(n)
	rest := int64(x[2+along]) + pads[along] + pads[2+along] - dilation*(kernel[along]-1) - 1
	must(rest >= 0)
	return int(rest/stride + 1)
}

func padsOf(n api.Node) []int64 { return within(attr.Pads(n), 4, 0) }

// within are an attribute's numbers, if they are so many, each within bounds.
func within(l []int64, many int, least int64) []int64 {
	must(len(l) == many)
	for _, x := range l {
		must(x >= least && x <= maxWindow)
	}
	return l
}
