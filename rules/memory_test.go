package rules

import (
	"cmp"
	"math/rand"
	"reflect"
	"slices"
	"strings"
	"testing"
	"unsafe"

	"mandrel/api"
	"mandrel/arena"
	"mandrel/graph"
	"mandrel/infer"
	"mandrel/live"
	"mandrel/load"
	"mandrel/num"
	"mandrel/passes"
	"mandrel/pb"
	"mandrel/runner"
	"mandrel/sample"
	"mandrel/sched"
	"mandrel/schema"
	"mandrel/sem"
	"mandrel/shape"
	"mandrel/spell"
	"mandrel/tile"
	"mandrel/told"
	"mandrel/view"
	"mandrel/wire"
)

// call is a call of the chapters, with arguments.
type call struct {
	name string
	do   any
	args []any
}

func of(name string, do any, args ...any) call { return call{name, do, args} }

// calls are those of the layers that are built: well ones, and such as have an error.
func calls() []call {
	v := api.View{Off: 1, Dims: []int{2, 3}, Strides: []int{3, 1}}
	l := []call{
		of("wire.Varint", wire.Varint, uint64(150)),
		of("wire.TakeVarint", wire.TakeVarint, "\x08\x96\x01", 1),
		of("wire.TakeVarint", wire.TakeVarint, "\x08\x96", 1),
		of("num.Check", num.Check, api.Bool, int64(1)),
		of("num.Unary", num.Unary, "Neg", api.Int32, int64(1)),
		of("num.Unary", num.Unary, "Neg", api.Bool, int64(1)),
		of("num.Binary", num.Binary, "Div", api.Int32, int64(1), int64(2)),
		of("num.Binary", num.Binary, "Div", api.Int32, int64(1), int64(0)),
		of("num.Cast", num.Cast, api.Int32, api.Float, int64(1)),
		of("num.Cast", num.Cast, api.Int32, 0, int64(1)),
		of("shape.Count", shape.Count, []int{2, 3}),
		of("shape.Count", shape.Count, []int{2, 0}),
		of("shape.Offset", shape.Offset, []int{2, 3}, []int{1, 2}),
		of("shape.Offset", shape.Offset, []int{2, 3}, []int{2, 1}),
		of("pb.Check", pb.Check, spell.Tensor("i 2: 1 2")),
		of("pb.Check", pb.Check, spell.Tensor("b 2: 1 2")),
		of("wire.Fields", wire.Fields, "\x08\x96\x01\x12\x02ab"),
		of("wire.Fields", wire.Fields, "\x08\x96\x01\x12\x02a"),
		of("wire.Write", wire.Write, []api.Field{{Num: 1, Kind: api.WireBytes, B: "ab"}, {Num: 2, U: 7}}),
		of("wire.Packed", wire.Packed, "\x01\x02\x03"),
		of("shape.Broadcast", shape.Broadcast, []int{2, 1}, []int{3}),
		of("shape.Strides", shape.Strides, []int{2, 3}),
		of("shape.Coords", shape.Coords, []int{2, 3}, 5),
		of("view.Whole", view.Whole, []int{2, 3}),
		of("view.Transpose", view.Transpose, v, []int{1, 0}),
		of("view.Slice", view.Slice, v, 1, 1, 2),
		of("view.Spread", view.Spread, v, []int{4, 2, 3}),
		of("view.Reshape", view.Reshape, v, []int{3, 2}),
		of("view.Read", view.Read, v, []int64{0, 1, 2, 3, 4, 5, 6}),
		of("pb.Decode", pb.Decode, "\x3a\x05\x12\x03abc"),
	}
	for _, text := range []string{"z = Relu(x)", "z = Reshape(x); shape=2 -1; then=Relu,Neg,", "z = Slice(x); starts=0 1; ends=2 3; axes=1 0; then=Relu,Neg", "c = Constant(); value=f 2: 1 2"} {
		n := spell.Node(text)
		l = append(l, of("schema.Check", schema.Check, n), of("schema.Then", schema.Then, n), of("schema.Ints", schema.Ints, n, "shape", []int64{1}))
		l = append(l, of("schema.Int", schema.Int, n, "axis", int64(1)), of("schema.Bits", schema.Bits, n, "min", int64(1)))
	}
	for _, g := range graphs() {
		l = append(l, of("pb.Encode", pb.Encode, g), of("graph.Check", graph.Check, g), of("graph.Order", graph.Order, g), of("graph.Readers", graph.Readers, g, "x"))
		l = append(l, of("infer.All", infer.All, g))
	}
	l = append(l, nodeCalls("infer.Out", infer.Out)...)
	l = append(l, evalCalls()...)
	l = append(l, passCalls()...)
	l = append(l, layoutCalls()...)
	l = append(l, machineCalls()...)
	l = append(l, planCalls()...)
	return append(l, tensorCalls()...)
}

// layoutCalls have graphs with and without pairs, and such as have an error.
func layoutCalls() []call {
	var l []call
	for _, g := range passGraphs() {
		l = append(l, of("live.Before", live.Before, g), of("arena.Plan", arena.Plan, g))
		l = append(l, of("live.Apart", live.Apart, g, 0, 1), of("live.Apart", live.Apart, g, 0, 0))
		for _, v := range slices.Concat(g.In, g.Out) {
			l = append(l, of("live.Width", live.Width, v))
		}
	}
	return append(l, of("live.Width", live.Width, spell.Value("x 3")), of("live.Width", live.Width, spell.Value("x f 0")))
}

// machineCalls have machines of which nothing, something, or all is done, and such as there are none of.
func machineCalls() []call {
	l := []call{
		of("tile.Steps", tile.Steps, 1, 5, 2), of("tile.Steps", tile.Steps, -1, 5, 2),
		of("sched.Put", sched.Put, api.Int32, []int64{1, -2}), of("sched.Put", sched.Put, api.Int32, []int64{1, 1 << 31}),
		of("sched.Get", sched.Get, api.Bool, []byte{0, 1, 1}), of("sched.Get", sched.Get, api.Bool, []byte{0, 1, 2}),
	}
	r := rand.New(rand.NewSource(11))
	for _, g := range passGraphs() {
		where, _ := arena.Plan(g)
		in := sample.Inputs(r.Intn, g)
		l = append(l, of("sched.Fits", sched.Fits, g, where), of("sched.Fits", sched.Fits, g, api.Layout{Size: 8}))
		l = append(l, of("sched.New", sched.New, g, where, in, 0), of("sched.New", sched.New, g, api.Layout{}, in[:0], 2))
		for _, many := range []int{0, 1, 3, 1000} {
			l = append(l, of("sched.Machine", machineAnswers, g, where, in, 2, many))
		}
	}
	return l
}

// planCalls have files, and plans, such as may be and others, with masks, inputs and sizes of both kinds.
func planCalls() []call {
	l := []call{of("load.Load", load.Load, "", 0), of("load.Load", load.Load, "\x08", 0), of("load.Check", load.Check, api.Plan{}), of("runner.Run", runner.Run, api.Plan{}, []api.Tensor{}, 1, []int{1})}
	r := rand.New(rand.NewSource(12))
	for i, g := range passGraphs() {
		s := told.File(r.Intn, g)
		in := sample.Inputs(r.Intn, g)
		for _, mask := range []int{0, i % 16, api.PassAll, 16} {
			l = append(l, of("load.Load", load.Load, s, mask))
		}
		p, _ := load.Load(s, i%16)
		wrong := p
		wrong.Layout.Size += 8
		l = append(l, of("load.Check", load.Check, p), of("load.Check", load.Check, wrong))
		l = append(l, of("runner.Run", runner.Run, p, in, 1, []int{-1, 5, 2}), of("runner.Run", runner.Run, p, in, 3, []int{}), of("runner.Run", runner.Run, p, in, 0, []int{1}), of("runner.Run", runner.Run, wrong, in, 1, []int{1}))
	}
	return l
}

// answers are those of a machine.
type answers struct {
	Steps         []api.Step
	Reads, Writes []api.Place
	Error         api.Errno
	Out           []api.Tensor
}

// machineAnswers are what a machine answers behind some steps, twice over; the error, if there is no machine.
func machineAnswers(g api.Graph, where api.Layout, in []api.Tensor, size, many int) ([2]answers, api.Errno) {
	var l [2]answers
	m, e := sched.New(g, where, in, size)
	if e != api.OK {
		return l, e
	}
	for range many {
		if steps := m.Enabled(); len(steps) > 0 {
			m.Do(steps[len(steps)/2])
		}
	}
	for i := range l {
		l[i].Steps = m.Enabled()
		l[i].Out, l[i].Error = m.Out()
		s := append(m.Enabled(), api.Step{Node: len(g.Nodes) - 1, Hi: 1}, api.Step{Node: len(g.Nodes) - 1, Hi: 2})
		for k := 0; k < len(s) && len(l[i].Writes) == 0; k++ {
			l[i].Reads, l[i].Writes = m.Touches(s[k])
		}
	}
	return l, api.OK
}

// passGraphs are such of which passes leave something as it is, take something away, and put something together, and graphs of all kinds.
func passGraphs() []api.Graph {
	l := graphs()
	for _, text := range []string{
		"in x i 2\ninit w i 2: 5 6\ny = Add(v, x)\nv = Neg(w)\nu = Neg(w)\nout y i 2\nout w i 2",
		"in x i 2\ninit w i 2: 5 6\ninit o i: 0\nd = Div(w, o)\nz = Identity(w)\ny = Reshape(x); shape=2; then=Neg\nout z i 2\nout y i 2",
		"in x f 2\nz = Neg(b)\nb = Abs(a)\na = Add(x, x)\nd = Neg(c)\nc = Mul(x, x)\nf = Exp(e)\ne = Clip(x); then=Neg; min=1\nout z f 2\nout d f 2\nout f f 2",
		"c = Constant(); value=i 2: 1 2\nz = Neg(c)\nout z i 2",
		"init w i 2: 1 2\nout w i 2",
		"in x f 2 3\nz = Neg(c)\nc = Transpose(b)\nb = Transpose(a); perm=1 0\na = Identity(x)\nd = Add(a, a)\ne = Transpose(b); then=Neg\nout z f 2 3\nout e f 2 3\nout b f 3 2",
		"in x f 2 3\nz = Reshape(b); shape=-1; then=Neg\nb = Unsqueeze(a); axes=0\na = Flatten(x)\nc = Expand(x); shape=1\nd = Mul(c, c)\ne = Squeeze(b); axes=0\nout z f 6\nout d f 2 3\nout e f 2 3\nout b f 1 2 3",
	} {
		l = append(l, spell.Graph(text))
	}
	r := rand.New(rand.NewSource(3))
	for range 100 {
		g := sample.Graph(r.Intn, r.Intn(12), sample.All)
		g.Name = "graph"
		for i := range g.Nodes {
			g.Nodes[i].Name = "node"
		}
		l = append(l, g)
	}
	return l
}

func passCalls() []call {
	l := passGraphs()
	var calls []call
	for _, c := range graphPasses() {
		for _, g := range l {
			calls = append(calls, of(c.name, c.do, g))
		}
	}
	for _, g := range l[:10] {
		calls = append(calls, of("passes.Run", passes.Run, g, -1), of("passes.Run", passes.Run, g, 16))
	}
	return calls
}

// evalCalls have graphs whose outputs are made by nodes, or are inputs and initializers themselves, and such as have an error.
func evalCalls() []call {
	var l []call
	for _, text := range []string{
		"in x i 2 | i 2: 1 2\nout x i 2",
		"in x i 2 | i 2: 1 2\ninit w f 2: 1 2\ny = Identity(x)\nz = Identity(y)\nout w f 2\nout z i 2\nout y i 2\nout x i 2",
		"in x i 2 | i 2: 1 2\nz = Neg(y)\ny = Add(x, x)\nc = Constant(); value=i 2: 1 2\nout c i 2\nout z i 2",
		"in x i 2 | i 2: 1 2\nz = Reshape(x); shape=1 2; then=Neg\nout z i 1 2",
		"in x i 2 | i 2: 1 0\nz = Div(x, x)\nout x i 2",
		"in x i 2 | i 2: 1 0\nz = Gather(x, x)\ny = Gather(z, z)\nw = Gather(x, y)\nv = Add(x, x)\nu = Gather(x, v)\nout x i 2",
		"in x i 2 | i 2: 1\nout x i 2",
		"in x i 2 | l 2: 1 2\nout x i 2",
		"in x i 2 |\nout x i 2",
		"in x i 2 | i 2: 1 2\nout x i 3",
	} {
		line, rest, _ := strings.Cut(text, "\n")
		input, tensors, _ := strings.Cut(line, "|")
		l = append(l, of("sem.Eval of "+text, sem.Eval, spell.Graph(input+"\n"+rest), spell.Tensors(tensors)))
	}
	return l
}

func graphs() []api.Graph {
	var l []api.Graph
	for _, text := range []string{
		"in x f 2 3\ninit w f 3: 1 2 3\nz = Add(y, w)\ny = Neg(x); then=Abs\nc = Constant(); value=i 2: 1 2\nout z f 2 3\nout x f 2 3",
		"in x f 2\nout x f 2",
		"in x f 2\nz = Neg(x)\nout z f 3",
		"in x f 2\nz = Not(x)\nout z f 2",
		"in x f 2\nz = Add(x, y)\ny = Neg(z)\nout z f 2",
		"in x f 2\nz = Reshape(x); shape=1 1 1 1 1 1 2\nout z f 2",
	} {
		l = append(l, spell.Graph(text))
	}
	return l
}

// nodeCalls has a node of each kind that hands on, or cuts, the dims of its inputs.
func nodeCalls(name string, do func(api.Node, []api.Value) (api.Value, api.Errno)) []call {
	var l []call
	for _, text := range []string{
		"z = Relu(x) | f 2 3", "z = Clip(x) | f 2 3", "z = Cast(x); to=1 | b 2 3", "z = Softmax(x) | f 2 3",
		"z = Add(x, y) | f 2 3 | f 3", "z = Add(x, y) | f 2 3 | f", "z = Where(x, y, w) | b 2 3 | f 2 3 | f 2 3",
		"z = ReduceSum(x); axes= | f 2 3", "z = ReduceSum(x); axes=1 | f 2 3", "z = ArgMax(x) | f 2 3",
		"z = Reshape(x); shape=0 -1 | f 2 3", "z = Expand(x); shape=2 3 | f 2 3", "z = Transpose(x); perm=0 1 | f 2 3", "z = Transpose(x) | f 2 3",
		"z = Concat(x); axis=0 | f 2 3", "z = Concat(x, y); axis=0 | f 2 3 | f 2 3", "z = Slice(x); starts=; ends= | f 2 3", "z = Slice(x); starts=1; ends=2 | f 2 3",
		"z = Gather(x, y) | f 2 3 | l 4 5", "z = Pad(x); pads=0 0 1 1 | f 2 3", "z = Squeeze(x); axes= | f 2 3", "z = Squeeze(x); axes=0 | f 1 3", "z = Unsqueeze(x); axes= | f 2 3", "z = Unsqueeze(x); axes=0 | f 2 3",
		"z = Flatten(x) | f 2 3", "z = MatMul(x, y) | f 5 2 3 | f 5 3 4", "z = Gemm(x, y, w); transA=1 | f 3 2 | f 3 4 | f 2 4",
		"z = Conv(x, y) | f 1 2 3 3 | f 1 2 1 1", "z = MaxPool(x); kernel_shape=1 1; strides=1 1; pads=0 0 0 0 | f 1 2 3 3", "z = GlobalAveragePool(x) | f 1 2 3 3",
		"z = BatchNormalization(x, a, b, c, d) | f 1 2 3 | f 2 | f 2 | f 2 | f 2", "z = Constant(); value=f 2: 1 2",
		"z = Relu(x) | b 2 3", "z = Neg(x); then=Not | f 2 3", "z = Neg(x) | f 65537", "z = What(x) | f 2",
	} {
		parts := strings.Split(text, "|")
		var in []api.Value
		for _, part := range parts[1:] {
			in = append(in, spell.Value("a "+strings.TrimSpace(part)))
		}
		l = append(l, of(name+" of "+text, do, spell.Node(parts[0]), in))
	}
	return l
}

// tensorCalls have a node of each way in which a layer makes elements; each layer has those of the others as wrong ones.
func tensorCalls() []call {
	var l []call
	for _, text := range []string{
		"Identity | f 2: 1 2", "Neg; then=Abs | i 2: 1 2", "Add | i 2: 1 2, i: 3", "Add | i 2: 1 2, i 2: 3 4", "Where | b 2: 1 0, f 2: 1 2, f 2: 3 4", "Clip; min=0 | f 2: 1 2", "Cast; to=1 | f 2: 1 2", "Cast; to=9 | f 2: 1 2",
		"Div | i 2: 1 2, i 2: 1 0", "Neg | i 2: 1", "Neg | b: 1", "What | i: 1",
		"Reshape; shape=1 -1 | i 2: 1 2", "Reshape; shape=2 | i 2: 1 2", "Expand; shape=2 | i 2: 1 2", "Expand; shape=2 2 | i 2: 1 2", "Transpose; perm=0 | i 2: 1 2", "Transpose | i 2 1: 1 2",
		"Concat; axis=0 | i 2: 1 2", "Concat; axis=0 | i 2: 1 2, i 1: 3", "Slice; starts=0; ends=2; axes=0 | i 2: 1 2", "Slice; starts=; ends= | i 2: 1 2", "Gather | i 2: 1 2, i 2: 0 1", "Gather | i 2: 1 2, i: -1", "Gather | i 2: 1 2, i: 2",
		"Pad; pads=0 0 | f 2: 1 2", "Pad; pads=1 2; value=3 | f 2: 1 2", "Squeeze; axes=0 | i 1 2: 1 2", "Squeeze; axes= | i 2: 1 2", "Unsqueeze; axes=0 | i 2: 1 2", "Unsqueeze; axes= | i 2: 1 2", "Flatten | i 2 1: 1 2", "Constant; value=i 2: 1 2 |",
		"ReduceSum | i 2 2: 1 2 3 4", "ReduceSum; axes= | i 2: 1 2", "ReduceMean; axes=0; keepdims=0; then=Neg | f 2 2: 1 2 3 4", "ReduceMax; axes=-1 | l 2 2: 1 2 3 4", "ArgMax; axis=1 | f 2 2: 1 2 nan 4",
		"Softmax | f 2: 1 2", "Softmax; axis=0 | f 1 2: 1 2", "BatchNormalization; epsilon=1 | f 1 2: 1 2, f 2: 1 2, f 2: 1 2, f 2: 1 2, f 2: 1 2", "ReduceMean | i 2: 1 2", "Softmax | f: 1",
		"Conv | f 1 1 1 2: 1 2, f 1 1 1 2: 3 4", "Conv; strides=1 1; pads=1 1 1 1; dilations=1 1; group=1; then=Relu,Neg | f 1 1 1 2: 1 2, f 2 1 1 2: 3 4 5 6, f 2: 7 8", "Conv | f 1 1 1 1: 1, f 1 2 1 1: 1 2",
		"MaxPool; kernel_shape=1 1 | f 1 1 1 2: 1 2", "MaxPool; kernel_shape=1 2; pads=0 1 0 1 | f 1 1 1 2: 1 2", "AveragePool; kernel_shape=1 1; strides=1 1; then=Neg | f 1 1 1 2: 1 2", "GlobalAveragePool | f 1 1 1 1: 1", "GlobalAveragePool | f 1 1 1 2: 1 2", "MaxPool; kernel_shape=2 1 | f 1 1 1 1: 1",
		"Constant; value=i 2: 1 2; then=Neg |", "Identity; then=Identity | f 2: 1 2", "Reshape; shape=2; then=Neg,Abs | i 2: 1 2",
		"MatMul | f 1 2: 1 2, f 2 1: 3 4", "MatMul | f 2 1 2: 1 2 3 4, f 2 1: 3 4", "MatMul | f 1 2: 1 2, f 1 2: 3 4", "Gemm | f 1 1: 2, f 1 1: 3", "Gemm; transA=1; transB=1; alpha=2; beta=3; then=Neg | f 2 1: 1 2, f 1 2: 3 4, f 1: 5", "Gemm | f 2 1: 1 2, f 1 2: 3 4, f 2 2: 5 6 7 8",
	} {
		node, in, _ := strings.Cut(text, "|")
		tensors := spell.Tensors(in)
		n := spell.Op(node, len(tensors))
		for _, c := range doers() {
			l = append(l, of(c.name+" of "+text, c.do, n, tensors))
		}
		l = append(l, of("tile.Part of "+text, tile.Part, n, tensors, 0, 1), of("tile.Part of "+text, tile.Part, n, tensors, 1, 2), of("tile.Part of "+text, tile.Part, n, tensors, 1, 1))
	}
	return l
}

// results are what a call answers.
func (c call) results(args []reflect.Value) []reflect.Value {
	return reflect.ValueOf(c.do).Call(args)
}

// roomyArgs are copies of the arguments, with spare room behind each list.
func (c call) roomyArgs() []reflect.Value {
	var l []reflect.Value
	for _, a := range c.args {
		l = append(l, copied(reflect.ValueOf(a), roomy))
	}
	return l
}

type copyOfList func(reflect.Value) reflect.Value

// roomy is a list with as much room again behind it, and some more, filled with the list itself.
func roomy(l reflect.Value) reflect.Value {
	room := reflect.MakeSlice(l.Type(), 2*l.Len()+3, 2*l.Len()+3)
	reflect.Copy(room.Slice(l.Len(), room.Len()), l)
	reflect.Copy(room, l)
	return room.Slice(0, l.Len())
}

// whole is a list with its spare room as a part of it.
func whole(l reflect.Value) reflect.Value {
	room := reflect.MakeSlice(l.Type(), l.Cap(), l.Cap())
	reflect.Copy(room, l.Slice(0, l.Cap()))
	return room
}

// copied goes down into structs and lists.
func copied(v reflect.Value, list copyOfList) reflect.Value {
	c := reflect.New(v.Type()).Elem()
	c.Set(v)
	switch v.Kind() {
	case reflect.Struct:
		for i := range v.NumField() {
			c.Field(i).Set(copied(v.Field(i), list))
		}
	case reflect.Array:
		for i := range v.Len() {
			c.Index(i).Set(copied(v.Index(i), list))
		}
	case reflect.Slice:
		c.Set(list(v))
		for i := range c.Len() {
			c.Index(i).Set(copied(c.Index(i), list))
		}
	case reflect.String:
		c.SetString(strings.Clone(v.String()))
	}
	return c
}

// plain are things as they stand, their lists' spare room as parts of them or left out.
func plain(l []reflect.Value, list copyOfList) []any {
	var r []any
	for _, v := range l {
		r = append(r, copied(v, list).Interface())
	}
	return r
}

func tight(l reflect.Value) reflect.Value {
	if l.Len() == 0 {
		return reflect.Zero(l.Type())
	}
	room := reflect.MakeSlice(l.Type(), l.Len(), l.Len())
	reflect.Copy(room, l)
	return room
}

// span is where a list with its spare room, or a text, lies.
type span struct{ from, to uintptr }

func spans(v reflect.Value) []span {
	var l []span
	switch v.Kind() {
	case reflect.Struct:
		for i := range v.NumField() {
			l = append(l, spans(v.Field(i))...)
		}
	case reflect.Array:
		for i := range v.Len() {
			l = append(l, spans(v.Index(i))...)
		}
	case reflect.String:
		s := v.String()
		if at := uintptr(unsafe.Pointer(unsafe.StringData(s))); s != "" {
			l = append(l, span{at, at + uintptr(len(s))})
		}
	case reflect.Slice:
		if v.Cap() > 0 {
			l = append(l, span{v.Pointer(), v.Pointer() + uintptr(v.Cap())*v.Type().Elem().Size()})
		}
		for i := range v.Len() {
			l = append(l, spans(v.Index(i))...)
		}
	}
	return l
}

func allSpans(l []reflect.Value) []span {
	var r []span
	for _, v := range l {
		r = append(r, spans(v)...)
	}
	return r
}

func meet(l []span) bool {
	slices.SortFunc(l, func(a, b span) int { return cmp.Compare(a.from, b.from) })
	for i := range l {
		if i > 0 && l[i-1].to > l[i].from {
			return true
		}
	}
	return false
}

// failed tells whether the last result is an error.
func failed(results []reflect.Value) bool {
	e, ok := results[len(results)-1].Interface().(api.Errno)
	return ok && e != api.OK
}

func TestWhatIsHandedInStaysAsItIs(t *testing.T) {
	for _, c := range calls() {
		args := c.roomyArgs()
		before := plain(args, whole)
		results := c.results(args)
		if !reflect.DeepEqual(plain(args, whole), before) {
			t.Errorf("R5: %s changes what is handed in", c.name)
		}
		again := c.results(args)
		if meet(slices.Concat(allSpans(args), allSpans(results), allSpans(again))) {
			t.Errorf("R5: %s answers memory that is handed in, or answered twice", c.name)
		}
	}
}

func TestAnswersHangOnArgumentsAlone(t *testing.T) {
	for _, c := range calls() {
		want := plain(c.results(c.roomyArgs()), tight)
		var bare []reflect.Value
		for _, a := range c.args {
			bare = append(bare, copied(reflect.ValueOf(a), tight))
		}
		if got := plain(c.results(bare), tight); !reflect.DeepEqual(got, want) {
			t.Errorf("R6: %s answers %v, and then %v", c.name, want, got)
		}
	}
}

func TestNothingBesideAnError(t *testing.T) {
	wrong := 0
	for _, c := range calls() {
		results := c.results(c.roomyArgs())
		if !failed(results) {
			continue
		}
		wrong++
		for _, r := range results[:len(results)-1] {
			if !copied(r, tight).IsZero() {
				t.Errorf("R3: %s answers %v beside its error", c.name, r)
			}
		}
	}
	if wrong < 10 {
		t.Errorf("only %d calls have an error", wrong)
	}
}
