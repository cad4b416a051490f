package schema

import (
	"math"
	"math/rand"
	"slices"
	"strconv"
	"strings"
	"sync"
	"testing"

	"mandrel/api"
)

// table is the document's: operators, how many inputs at least and at most, attributes (those with a star must be there) by their kinds.
const table = `
Identity Neg Abs Not Relu Sqrt Floor Exp Sigmoid Tanh|1 1|
Add Sub Mul Div Max Min And Or Xor Equal Less Greater|2 2|
Where|3 3|
Clip|1 1|min:1 max:1
Cast|1 1|to*:2
ReduceSum ReduceMax ReduceMean|1 1|axes:7 keepdims:2
ArgMax|1 1|axis:2 keepdims:2
Reshape Expand|1 1|shape*:7
Transpose|1 1|perm:7
Concat|1 20|axis*:2
Slice|1 1|starts*:7 ends*:7 axes:7
Gather|2 2|axis:2
Pad|1 1|pads*:7 value:1
Squeeze Unsqueeze|1 1|axes*:7
Flatten Softmax|1 1|axis:2
MatMul|2 2|
Gemm|2 3|transA:2 transB:2 alpha:1 beta:1
Conv|2 3|strides:7 pads:7 dilations:7 group:2
MaxPool AveragePool|1 1|kernel_shape*:7 strides:7 pads:7
GlobalAveragePool|1 1|
BatchNormalization|5 5|epsilon:1
Constant|0 0|value*:4
`

type row struct {
	least, most int
	kinds       map[string]int
	must        []string
}

var rows = sync.OnceValue(readTable)

func readTable() map[string]row {
	l := map[string]row{}
	for _, line := range strings.Split(strings.TrimSpace(table), "\n") {
		part := strings.Split(line, "|")
		counts := strings.Fields(part[1])
		r := row{kinds: map[string]int{"then": api.AttrString}}
		r.least, _ = strconv.Atoi(counts[0])
		r.most, _ = strconv.Atoi(counts[1])
		for _, a := range strings.Fields(part[2]) {
			name, kind, _ := strings.Cut(a, ":")
			name, must := strings.CutSuffix(name, "*")
			r.kinds[name], _ = strconv.Atoi(kind)
			if must {
				r.must = append(r.must, name)
			}
		}
		for _, op := range strings.Fields(part[0]) {
			l[op] = r
		}
	}
	return l
}

func unaries() []string { return strings.Fields(strings.Split(strings.TrimSpace(table), "|")[0]) }

// names are those of all attributes, and some that none has.
var names = sync.OnceValue(allNames)

func allNames() []string {
	l := []string{"", "Axis", "axis ", "what", "auto_pad", "Then"}
	for _, r := range rows() {
		for name := range r.kinds {
			l = append(l, name)
		}
	}
	slices.Sort(l)
	return slices.Compact(l)
}

// attrOf is a good attribute of a kind.
func attrOf(name string, kind int) api.Attr {
	a := api.Attr{Name: name, Kind: kind}
	switch kind {
	case api.AttrFloat:
		a.F = 0x3f800000
	case api.AttrInt:
		a.I = 1
	case api.AttrString:
		a.S = "Relu,Neg"
	case api.AttrTensor:
		a.T = api.Tensor{Type: api.Bool, Data: []int64{1}}
	case api.AttrInts:
		a.Ints = []int64{1, 1}
	}
	return a
}

func inputs(n int) []string { return slices.Repeat([]string{"x"}, n) }

// goodNode is a node with as few inputs and attributes as may be.
func goodNode(op string) api.Node {
	r := rows()[op]
	n := api.Node{Op: op, In: inputs(r.least), Out: "z"}
	for _, name := range r.must {
		n.Attrs = append(n.Attrs, attrOf(name, r.kinds[name]))
	}
	return n
}

func with(n api.Node, attrs ...api.Attr) api.Node {
	n.Attrs = append(slices.Clone(n.Attrs), attrs...)
	return n
}

func expect(t *testing.T, n api.Node, want api.Errno) {
	t.Helper()
	if e := Check(n); e != want {
		t.Errorf("P6.1: %v: %d, not %d", n, e, want)
	}
}

func TestCheckExamples(t *testing.T) {
	x, xy := inputs(1), []string{"x", "y"}
	expect(t, api.Node{Op: "Relu", In: x, Out: "z"}, api.OK)
	expect(t, api.Node{Op: "Relu", In: xy, Out: "z"}, api.ErrGraph)
	expect(t, api.Node{Op: "What", In: x, Out: "z"}, api.ErrUnsupported)
	expect(t, api.Node{Op: "Cast", In: x, Out: "z"}, api.ErrGraph)
	expect(t, api.Node{Op: "Cast", In: x, Out: "z", Attrs: []api.Attr{attrOf("to", api.AttrFloat)}}, api.ErrGraph)
	expect(t, api.Node{Op: "Add", In: xy, Out: "z", Attrs: []api.Attr{attrOf("axis", api.AttrInt)}}, api.ErrUnsupported)
	expect(t, api.Node{Op: "Add", In: xy, Out: "z", Attrs: []api.Attr{{Name: "then", Kind: api.AttrString, S: "Relu,Neg"}}}, api.OK)
	expect(t, api.Node{Op: "Add", In: xy, Out: "z", Attrs: []api.Attr{{Name: "then", Kind: api.AttrString, S: "Relu,"}}}, api.ErrGraph)
}

func TestOperators(t *testing.T) {
	if len(rows()) != 48 {
		t.Fatalf("the test's own table has %d operators", len(rows()))
	}
	for op, r := range rows() {
		for n := range 25 {
			node := goodNode(op)
			node.In = inputs(n)
			want := api.ErrGraph
			if n >= r.least && n <= r.most {
				want = api.OK
			}
			expect(t, node, want)
		}
		for _, wrong := range []string{strings.ToLower(op), strings.ToUpper(op), op + " ", " " + op, op + "\x00", op[1:], op + "V2"} {
			for n := range 4 {
				expect(t, api.Node{Op: wrong, In: inputs(n), Out: "z"}, api.ErrUnsupported)
			}
		}
	}
	for _, op := range []string{"", "then", "Pow", "Log", "Dropout", "LSTM", "Relu,Neg", "LeakyRelu", "Sum", "Mean"} {
		expect(t, api.Node{Op: op, In: inputs(1), Out: "z"}, api.ErrUnsupported)
	}
}

func TestNamesOfInputsAndOutput(t *testing.T) {
	for op, r := range rows() {
		n := goodNode(op)
		n.Out = ""
		expect(t, n, api.ErrUnsupported)
		for count := r.least; count <= r.most; count++ {
			for i := range count {
				n := goodNode(op)
				n.In = inputs(count)
				n.In[i] = ""
				expect(t, n, api.ErrUnsupported)
			}
		}
	}
}

func TestAttributes(t *testing.T) {
	for op, r := range rows() {
		good := goodNode(op)
		full := api.Node{Op: op, In: inputs(r.most), Out: "z"}
		for name, kind := range r.kinds {
			full.Attrs = append(full.Attrs, attrOf(name, kind))
		}
		expect(t, full, api.OK)
		slices.Reverse(full.Attrs)
		expect(t, full, api.OK)
		for i, a := range full.Attrs {
			for k := range full.Attrs[i+1:] {
				twice := slices.Insert(slices.Clone(full.Attrs), i+1+k, a)
				expect(t, api.Node{Op: op, In: full.In, Out: "z", Attrs: twice}, api.ErrGraph)
			}
			without := slices.Delete(slices.Clone(full.Attrs), i, i+1)
			want := api.OK
			if slices.Contains(r.must, a.Name) {
				want = api.ErrGraph
			}
			expect(t, api.Node{Op: op, In: full.In, Out: "z", Attrs: without}, want)
		}
		for _, name := range names() {
			own, known := r.kinds[name]
			if slices.Contains(r.must, name) {
				continue
			}
			for kind := -1; kind < 15; kind++ {
				want := api.ErrUnsupported
				if known && kind == own {
					want = api.OK
				} else if known {
					want = api.ErrGraph
				}
				expect(t, with(good, attrOf(name, kind)), want)
			}
		}
	}
}

func TestFloatsOfAttributes(t *testing.T) {
	for op, name := range map[string]string{"Clip": "min", "Pad": "value", "Gemm": "beta", "BatchNormalization": "epsilon"} {
		for _, f := range []int64{0, api.NaN, 0x80000000, 0x7f800000, 0xff800000} {
			expect(t, with(goodNode(op), api.Attr{Name: name, Kind: api.AttrFloat, F: f}), api.OK)
		}
		for _, f := range []int64{-1, api.NaN + 1, 1 << 32, 0x7f800001, 0xffc00000, math.MinInt64, math.MaxInt64} {
			expect(t, with(goodNode(op), api.Attr{Name: name, Kind: api.AttrFloat, F: f}), api.ErrGraph)
		}
	}
	// Of another Kind F counts for nothing.
	expect(t, api.Node{Op: "Cast", In: inputs(1), Out: "z", Attrs: []api.Attr{{Name: "to", Kind: api.AttrInt, F: -1}}}, api.OK)
}

func TestConstants(t *testing.T) {
	constant := func(x api.Tensor, more ...api.Attr) api.Node {
		return with(api.Node{Op: "Constant", Out: "z"}, append([]api.Attr{{Name: "value", Kind: api.AttrTensor, T: x}}, more...)...)
	}
	then := func(s string) api.Attr { return api.Attr{Name: "then", Kind: api.AttrString, S: s} }
	for _, c := range []struct {
		x    api.Tensor
		want api.Errno
	}{
		{api.Tensor{Type: api.Float, Data: []int64{api.NaN}}, api.OK},
		{api.Tensor{Type: api.Int64, Dims: []int{2, 1}, Data: []int64{1, -1}}, api.OK},
		{api.Tensor{}, api.ErrUnsupported},
		{api.Tensor{Type: 2, Data: []int64{1}}, api.ErrUnsupported},
		{api.Tensor{Type: api.Float}, api.ErrGraph},
		{api.Tensor{Type: api.Float, Data: []int64{api.NaN + 1}}, api.ErrGraph},
		{api.Tensor{Type: api.Bool, Dims: []int{0}}, api.ErrGraph},
		{api.Tensor{Type: api.Bool, Data: []int64{2}}, api.ErrGraph},
		{api.Tensor{Type: api.Bool, Dims: []int{65537}}, api.ErrLimit},
		{api.Tensor{Type: api.Bool, Dims: []int{1, 1, 1, 1, 1, 1, 1}, Data: []int64{1}}, api.ErrLimit},
	} {
		expect(t, constant(c.x), c.want)
		expect(t, constant(c.x, then("Not")), c.want)
		expect(t, constant(c.x, then("Nothing")), api.ErrGraph)
		expect(t, constant(c.x, attrOf("axis", api.AttrInt)), api.ErrUnsupported)
	}
}

// wanted is what P6.1 says of a node, in the order in which it says it.
func wanted(n api.Node) api.Errno {
	r, ok := rows()[n.Op]
	if !ok {
		return api.ErrUnsupported
	}
	if len(n.In) < r.least || len(n.In) > r.most {
		return api.ErrGraph
	}
	for _, name := range append(slices.Clone(n.In), n.Out) {
		if name == "" {
			return api.ErrUnsupported
		}
	}
	met := map[string]api.Attr{}
	for _, a := range n.Attrs {
		kind, known := r.kinds[a.Name]
		_, twice := met[a.Name]
		switch {
		case !known:
			return api.ErrUnsupported
		case kind != a.Kind, twice, a.Kind == api.AttrFloat && a.F < 0:
			return api.ErrGraph
		}
		met[a.Name] = a
	}
	for _, name := range r.must {
		if _, ok := met[name]; !ok {
			return api.ErrGraph
		}
	}
	if then, ok := met["then"]; ok {
		for _, op := range strings.Split(then.S, ",") {
			if !slices.Contains(unaries(), op) {
				return api.ErrGraph
			}
		}
	}
	if n.Op == "Constant" && met["value"].T.Type == 0 {
		return api.ErrUnsupported
	}
	return api.OK
}

// TestFirstError makes nodes with several faults.
func TestFirstError(t *testing.T) {
	r := rand.New(rand.NewSource(1))
	var ops []string
	for op := range rows() {
		ops = append(ops, op)
	}
	slices.Sort(ops)
	met := map[api.Errno]int{}
	for range 20000 {
		n := goodNode(ops[r.Intn(len(ops))])
		if r.Intn(20) == 0 {
			n.Op += "s"
		}
		if r.Intn(10) == 0 {
			n.In = append(n.In, "x")
		}
		if r.Intn(10) == 0 && len(n.In) > 0 {
			n.In[r.Intn(len(n.In))] = ""
		}
		if r.Intn(20) == 0 {
			n.Out = ""
		}
		for range r.Intn(3) {
			n.Attrs = slices.Insert(n.Attrs, r.Intn(len(n.Attrs)+1), randomAttr(r, n.Op))
		}
		if r.Intn(5) == 0 && len(n.Attrs) > 0 {
			n.Attrs = slices.Delete(n.Attrs, 0, 1)
		}
		if r.Intn(5) == 0 && len(n.Attrs) > 0 {
			n.Attrs[r.Intn(len(n.Attrs))].T = api.Tensor{}
		}
		expect(t, n, wanted(n))
		met[wanted(n)]++
	}
	for _, e := range []api.Errno{api.OK, api.ErrGraph, api.ErrUnsupported} {
		if met[e] < 1000 {
			t.Errorf("only %d nodes had the answer %d: the test tells little", met[e], e)
		}
	}
}

// randomAttr is mostly one that the operator has.
func randomAttr(r *rand.Rand, op string) api.Attr {
	name := names()[r.Intn(len(names()))]
	if own := rows()[op].kinds; r.Intn(3) > 0 && own != nil {
		var l []string
		for name := range own {
			l = append(l, name)
		}
		slices.Sort(l)
		name = l[r.Intn(len(l))]
	}
	kind, ok := rows()[op].kinds[name]
	if !ok || r.Intn(6) == 0 {
		kind = r.Intn(9)
	}
	a := attrOf(name, kind)
	switch r.Intn(6) {
	case 0:
		a.S = "Relu,,Neg"
	case 1:
		a.F = -1
	}
	return a
}
