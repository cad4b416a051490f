package infer

import (
	"math/rand"
	"slices"
	"strings"
	"testing"

	"mandrel/api"
	"mandrel/attr"
	"mandrel/spell"
)

// slow finds dims by trying what may be; false, if a rule of the table does not hold. x is the first input's, y the second one's.
type slow func(ints map[string][]int64, x, y []int) ([]int, bool)

// trial is an operator with the inputs' rank and the attributes that are tried, each with its length (0: any), its least and its greatest number.
type trial struct {
	op    string
	types string
	rank  int // -1: any
	attrs []tried
	slow  slow
}

type tried struct {
	name        string
	one         bool
	length      int
	least, most int64
}

func trials() []trial {
	axis := tried{name: "axis", one: true, least: -5, most: 5}
	keep := tried{name: "keepdims", one: true, least: -1, most: 2}
	axes := tried{name: "axes", least: -4, most: 4}
	window := []tried{{name: "strides", length: 2, least: 0, most: 4}, {name: "pads", length: 4, least: -1, most: 3}}
	return []trial{
		{"ReduceSum", "f", -1, []tried{axes, keep}, slowReduce},
		{"ArgMax", "f", -1, []tried{axis, keep}, slowArgMax},
		{"Reshape", "f", -1, []tried{{name: "shape", least: -2, most: 6}}, slowReshape},
		{"Transpose", "f", -1, []tried{{name: "perm", least: -1, most: 3}}, slowTranspose},
		{"Concat", "f f", -1, []tried{axis}, slowConcat},
		{"Slice", "f", -1, []tried{{name: "starts", least: -6, most: 6}, {name: "ends", least: -6, most: 6}, axes}, slowSlice},
		{"Gather", "f l", -1, []tried{axis}, slowGather},
		{"Squeeze", "f", -1, []tried{axes}, slowSqueeze},
		{"Unsqueeze", "f", -1, []tried{axes}, slowUnsqueeze},
		{"Flatten", "f", -1, []tried{axis}, slowFlatten},
		{"Conv", "f f", 4, append(window, tried{name: "dilations", length: 2, least: 0, most: 3}, tried{name: "group", one: true, least: -1, most: 3}), slowConv},
		{"MaxPool", "f", 4, append(window, tried{name: "kernel_shape", length: 2, least: 0, most: 4}), slowPool},
	}
}

// axesFound are the axes counted from the first dimension on; false, if two are the same, or one is none.
func axesFound(axes []int64, rank int) ([]int, bool) {
	var l []int
	for _, a := range axes {
		for i := range rank {
			if (int64(i) == a || int64(i-rank) == a) && !slices.Contains(l, i) {
				l = append(l, i)
			}
		}
	}
	return l, len(l) == len(axes)
}

// someAxes are those of the attribute, or all that may be.
func someAxes(ints map[string][]int64, rank int) ([]int, bool) {
	for _, name := range []string{"axes", "axis"} {
		if l, ok := ints[name]; ok {
			return axesFound(l, rank)
		}
	}
	return axesFound(attr.UpTo(rank), rank)
}

func without(l []int, at []int) []int {
	var r []int
	for i, x := range l {
		if !slices.Contains(at, i) {
			r = append(r, x)
		}
	}
	return r
}

func slowReduce(ints map[string][]int64, x, y []int) ([]int, bool) {
	axes, ok := someAxes(ints, len(x))
	switch k := ints["keepdims"]; {
	case k == nil || k[0] == 1:
		dims := slices.Clone(x)
		for _, i := range axes {
			dims[i] = 1
		}
		return dims, ok
	case k[0] == 0:
		return without(x, axes), ok
	}
	return nil, false
}

func slowArgMax(ints map[string][]int64, x, y []int) ([]int, bool) {
	if _, ok := ints["axis"]; !ok {
		ints["axis"] = []int64{0}
	}
	return slowReduce(ints, x, y)
}

func product64(dims []int) int64 {
	n := int64(1)
	for _, d := range dims {
		n *= int64(d)
	}
	return n
}

func slowReshape(ints map[string][]int64, x, y []int) ([]int, bool) {
	var dims []int
	left := -1
	for i, d := range ints["shape"] {
		if d < -1 || d == -1 && left >= 0 || d == 0 && i >= len(x) {
			return nil, false
		}
		if d == -1 {
			left = i
		}
		if d == 0 {
			d = int64(x[i])
		}
		dims = append(dims, int(d))
	}
	if left < 0 {
		return dims, product64(dims) == product64(x)
	}
	for d := range int(product64(x)) {
		dims[left] = d + 1
		if product64(dims) == product64(x) {
			return dims, true
		}
	}
	return nil, false
}

func slowTranspose(ints map[string][]int64, x, y []int) ([]int, bool) {
	perm, ok := ints["perm"]
	if !ok {
		dims := slices.Clone(x)
		slices.Reverse(dims)
		return dims, true
	}
	if !slices.Equal(slices.Sorted(slices.Values(perm)), attr.UpTo(len(x))) {
		return nil, false
	}
	var dims []int
	for _, p := range perm {
		dims = append(dims, x[p])
	}
	return dims, true
}

func slowConcat(ints map[string][]int64, x, y []int) ([]int, bool) {
	axes, ok := axesFound(ints["axis"], len(x))
	if !ok || len(x) != len(y) || !slices.Equal(without(x, axes), without(y, axes)) {
		return nil, false
	}
	dims := slices.Clone(x)
	dims[axes[0]] += y[axes[0]]
	return dims, true
}

// slowSlice counts the places that are neither ahead of the start nor behind the end.
func slowSlice(ints map[string][]int64, x, y []int) ([]int, bool) {
	starts, ends := ints["starts"], ints["ends"]
	axes, ok := axesFound(attr.UpTo(len(starts)), len(x))
	if _, given := ints["axes"]; given {
		axes, ok = axesFound(ints["axes"], len(x))
	}
	if !ok || len(starts) != len(ends) || len(starts) != len(axes) {
		return nil, false
	}
	dims := slices.Clone(x)
	for k, i := range axes {
		dims[i] = 0
		for at := range x[i] {
			back := int64(at - x[i])
			isBehind := starts[k] >= 0 && int64(at) >= starts[k] || starts[k] < 0 && back >= starts[k]
			isAhead := ends[k] >= 0 && int64(at) < ends[k] || ends[k] < 0 && back < ends[k]
			if isBehind && isAhead {
				dims[i]++
			}
		}
	}
	return dims, !slices.Contains(dims, 0)
}

func slowGather(ints map[string][]int64, x, y []int) ([]int, bool) {
	axis := []int64{0}
	if l, ok := ints["axis"]; ok {
		axis = l
	}
	axes, ok := axesFound(axis, len(x))
	if !ok {
		return nil, false
	}
	var dims []int
	for i, d := range x {
		if i == axes[0] {
			dims = append(dims, y...)
		} else {
			dims = append(dims, d)
		}
	}
	return dims, true
}

func slowSqueeze(ints map[string][]int64, x, y []int) ([]int, bool) {
	axes, ok := someAxes(ints, len(x))
	for _, i := range axes {
		ok = ok && x[i] == 1
	}
	return without(x, axes), ok
}

// slowUnsqueeze tries at which places what comes out has x's dims.
func slowUnsqueeze(ints map[string][]int64, x, y []int) ([]int, bool) {
	rank := len(x) + len(ints["axes"])
	axes, ok := axesFound(ints["axes"], rank)
	var dims []int
	for i := range rank {
		if slices.Contains(axes, i) || len(x) == 0 {
			dims = append(dims, 1)
		} else {
			dims, x = append(dims, x[0]), x[1:]
		}
	}
	return dims, ok
}

func slowFlatten(ints map[string][]int64, x, y []int) ([]int, bool) {
	axis := int64(1)
	if l, ok := ints["axis"]; ok {
		axis = l[0]
	}
	for i := range len(x) + 1 {
		if int64(i) == axis || axis < 0 && int64(i-len(x)) == axis {
			return []int{int(product64(x[:i])), int(product64(x[i:]))}, true
		}
	}
	return nil, false
}

// slowWindow moves the kernel on, stride by stride, until it no longer stands within the dimension and its pads.
func slowWindow(ints map[string][]int64, x []int, kernel []int64) ([]int, bool) {
	strides, dilations, pads := []int64{1, 1}, []int64{1, 1}, []int64{0, 0, 0, 0}
	for name, l := range map[string]*[]int64{"strides": &strides, "dilations": &dilations, "pads": &pads} {
		if given, ok := ints[name]; ok {
			if len(given) != len(*l) || slices.Min(given) < 0 || name != "pads" && slices.Min(given) < 1 {
				return nil, false
			}
			*l = given
		}
	}
	places := []int{0, 0}
	for i := range places {
		for at := -pads[i]; at+dilations[i]*(kernel[i]-1) < int64(x[2+i])+pads[2+i]; at += strides[i] {
			places[i]++
		}
	}
	return places, places[0] > 0 && places[1] > 0
}

func slowConv(ints map[string][]int64, x, w []int) ([]int, bool) {
	group := 1
	if l, ok := ints["group"]; ok {
		group = int(l[0])
	}
	if group < 1 || w[1]*group != x[1] || w[0]%group != 0 {
		return nil, false
	}
	places, ok := slowWindow(ints, x, []int64{int64(w[2]), int64(w[3])})
	return append([]int{x[0], w[0]}, places...), ok
}

func slowPool(ints map[string][]int64, x, y []int) ([]int, bool) {
	kernel := ints["kernel_shape"]
	if len(kernel) != 2 || slices.Min(kernel) < 1 {
		return nil, false
	}
	for i, p := range ints["pads"] {
		if p >= kernel[i%2] {
			return nil, false
		}
	}
	places, ok := slowWindow(ints, x, kernel)
	return append(x[:2:2], places...), ok
}

// attrsOf are some numbers for a trial; now and then an attribute is left out, if the operator does without.
func attrsOf(r *rand.Rand, c trial, rank int) ([]api.Attr, map[string][]int64) {
	var l []api.Attr
	ints := map[string][]int64{}
	needed := "shape starts ends kernel_shape"
	if c.op == "Concat" || strings.HasSuffix(c.op, "queeze") {
		needed += " axis axes"
	}
	for _, a := range c.attrs {
		if r.Intn(4) == 0 && !slices.Contains(strings.Fields(needed), a.name) {
			continue
		}
		length := a.length
		if a.one {
			length = 1
		} else if length == 0 {
			length = r.Intn(rank + 2)
		}
		list := []int64{}
		for range length {
			list = append(list, a.least+r.Int63n(a.most-a.least+1))
		}
		ints[a.name] = list
		if a.one {
			l = append(l, api.Attr{Name: a.name, Kind: api.AttrInt, I: list[0]})
		} else {
			l = append(l, api.Attr{Name: a.name, Kind: api.AttrInts, Ints: list})
		}
	}
	return l, ints
}

func someDims(r *rand.Rand, rank int) []int {
	if rank < 0 {
		rank = r.Intn(5)
	}
	var dims []int
	for range rank {
		dims = append(dims, 1+r.Intn(4))
	}
	return dims
}

func TestDimsAgainstTrying(t *testing.T) {
	r := rand.New(rand.NewSource(5))
	for _, c := range trials() {
		well := 0
		for range 20000 {
			in := valuesOf(strings.ReplaceAll(c.types, " ", ","))
			for i := range in {
				in[i].Dims = someDims(r, c.rank)
			}
			x, y := in[0].Dims, in[len(in)-1].Dims
			if c.op == "Concat" && r.Intn(4) > 0 {
				copy(y, x)
			}
			if c.op == "Conv" && r.Intn(4) > 0 {
				y[1] = max(x[1]/(1+r.Intn(2)), 1)
			}
			n := spell.Op(c.op, len(in))
			var ints map[string][]int64
			n.Attrs, ints = attrsOf(r, c, len(x))
			dims, ok := c.slow(ints, slices.Clone(x), slices.Clone(y))
			want, wantError := dims, api.OK
			if !ok {
				want, wantError = nil, api.ErrGraph
			} else if len(dims) > api.MaxRank {
				want, wantError = nil, api.ErrLimit
			} else {
				well++
			}
			if v, e := Out(n, in); e != wantError || !slices.Equal(v.Dims, want) {
				t.Fatalf("P8.1: %s %v of %d, %d: %d, %d, not %d, %d", c.op, ints, x, y, v.Dims, e, want, wantError)
			}
		}
		if well < 300 || well > 19700 {
			t.Errorf("%s: %d of 20000 without an error", c.op, well)
		}
	}
}
