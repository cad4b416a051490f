package pb

import (
	"math"
	"math/rand"
	"slices"
	"strconv"
	"strings"
	"testing"

	"mandrel/api"
)

// someGraph is a graph that may be told, of all there is, with its edges.
func someGraph() api.Graph {
	return api.Graph{
		Name: "net",
		Nodes: []api.Node{
			{},
			{Op: "Conv", Name: "first", In: []string{"x", "", "w"}, Out: "c", Attrs: []api.Attr{
				{Kind: api.AttrInt},
				{Name: "i", Kind: api.AttrInt, I: math.MinInt64},
				{Name: "f", Kind: api.AttrFloat, F: api.NaN},
				{Name: "f", Kind: api.AttrFloat},
				{Name: "f", Kind: api.AttrFloat, F: 0x80000000},
				{Name: "s", Kind: api.AttrString, S: "\x00\xff, a text"},
				{Name: "s", Kind: api.AttrString},
				{Name: "t", Kind: api.AttrTensor, T: api.Tensor{Type: api.Bool, Data: []int64{0}}},
				{Name: "l", Kind: api.AttrInts, Ints: []int64{0, -1, math.MaxInt64, math.MinInt64}},
				{Name: "l", Kind: api.AttrInts, Ints: []int64{0}},
				{Name: "l", Kind: api.AttrInts},
			}},
		},
		In:  []api.Value{{Name: "x", Type: api.Float, Dims: []int{2, 3}}, {Type: api.Bool}, {Name: "z", Type: api.Int64, Dims: []int{1, 1, 1, 1, 1, 65536}}},
		Out: []api.Value{{Name: "y", Type: api.Int32, Dims: []int{1}}, {Name: "y", Type: api.Int32, Dims: []int{1}}},
		Inits: []api.Named{
			{Name: "w", T: api.Tensor{Type: api.Float, Dims: []int{2, 2}, Data: []int64{0, api.NaN, 0xff800000, 0x80000000}}},
			{T: api.Tensor{Type: api.Float, Data: []int64{0}}},
			{Name: "a", T: api.Tensor{Type: api.Int32, Dims: []int{3}, Data: []int64{0, math.MinInt32, math.MaxInt32}}},
			{Name: "b", T: api.Tensor{Type: api.Int64, Dims: []int{3, 1}, Data: []int64{0, math.MinInt64, math.MaxInt64}}},
			{Name: "c", T: api.Tensor{Type: api.Int64, Dims: []int{1}, Data: []int64{-1}}},
			{Name: "d", T: api.Tensor{Type: api.Bool, Dims: []int{2}, Data: []int64{1, 0}}},
		},
	}
}

func expectTold(t *testing.T, what string, g api.Graph) string {
	t.Helper()
	s, e := Encode(g)
	if e != api.OK {
		t.Errorf("P5.3: %s: %d", what, e)
		return ""
	}
	back, e := Decode(s)
	if e != api.OK || !same(back, g) {
		t.Errorf("P5.3: %s: read again: %.300v, %d, not %.300v", what, back, e, g)
	}
	return s
}

func expectNotTold(t *testing.T, what string, g api.Graph, want api.Errno) {
	t.Helper()
	if s, e := Encode(g); s != "" || e != want {
		t.Errorf("P5.3: %s: %.40x, %d, not %d", what, s, e, want)
	}
}

func TestEncode(t *testing.T) {
	if s := expectTold(t, "an empty graph", api.Graph{}); s != "\x3a\x00" {
		t.Errorf("P5.3: an empty graph: %x", s)
	}
	expectTold(t, "some graph", someGraph())
	for i := range someGraph().Inits {
		expectTold(t, "an initializer", api.Graph{Inits: someGraph().Inits[i : i+1]})
	}
	for i := range someGraph().Nodes[1].Attrs {
		expectTold(t, "an attribute", api.Graph{Nodes: []api.Node{{Attrs: someGraph().Nodes[1].Attrs[i : i+1]}}})
	}
	empty := api.Graph{Nodes: []api.Node{{In: []string{}, Attrs: []api.Attr{{Kind: 2, Ints: []int64{}, T: api.Tensor{Dims: []int{}, Data: []int64{}}}}}}, In: []api.Value{}, Out: []api.Value{}, Inits: []api.Named{}}
	expectTold(t, "empty lists", empty)
}

// edits change a graph that may be told: each one alone, once so far that it still may be, once further.
func edits() map[string]func(g *api.Graph, further int) {
	name := func(further int) string { return strings.Repeat("n", 100+further) }
	good := someGraph()
	attr := func(a api.Attr) func(*api.Graph, int) {
		return func(g *api.Graph, further int) {
			if further > 0 {
				g.Nodes[1].Attrs[3] = a
			}
		}
	}
	tensor := func(x api.Tensor) func(*api.Graph, int) {
		return func(g *api.Graph, further int) {
			if further > 0 {
				g.Inits[2].T = x
			}
		}
	}
	value := func(v api.Value) func(*api.Graph, int) {
		return func(g *api.Graph, further int) {
			if further > 0 {
				g.In[1] = v
			}
		}
	}
	l := map[string]func(g *api.Graph, further int){
		"graph's name":     func(g *api.Graph, further int) { g.Name = name(further) },
		"node's name":      func(g *api.Graph, further int) { g.Nodes[0].Name = name(further) },
		"operator":         func(g *api.Graph, further int) { g.Nodes[1].Op = name(further) },
		"input":            func(g *api.Graph, further int) { g.Nodes[1].In[2] = name(further) },
		"output":           func(g *api.Graph, further int) { g.Nodes[1].Out = name(further) },
		"attribute's name": func(g *api.Graph, further int) { g.Nodes[1].Attrs[10].Name = name(further) },
		"string":           func(g *api.Graph, further int) { g.Nodes[1].Attrs[5].S = name(further) },
		"initializer":      func(g *api.Graph, further int) { g.Inits[5].Name = name(further) },
		"in":               func(g *api.Graph, further int) { g.In[2].Name = name(further) },
		"out":              func(g *api.Graph, further int) { g.Out[1].Name = name(further) },
		"out's type":       func(g *api.Graph, further int) { g.Out[1].Type = 9 + further },
		"out's dims":       func(g *api.Graph, further int) { g.Out[0].Dims = []int{1 - further} },
		"in's dims":        func(g *api.Graph, further int) { g.In[0].Dims = []int{65536 + further} },
		"in's rank":        func(g *api.Graph, further int) { g.In[0].Dims = slices.Repeat([]int{1}, 6+further) },
		"nodes":            func(g *api.Graph, further int) { g.Nodes = make([]api.Node, 1000+further) },
		"outputs":          func(g *api.Graph, further int) { g.Out = slices.Repeat(good.Out[:1], 3000+further) },
		"inputs of a node": func(g *api.Graph, further int) { g.Nodes[1].In = make([]string, 20+further) },
		"attributes":       func(g *api.Graph, further int) { g.Nodes[0].Attrs = slices.Repeat(good.Nodes[1].Attrs[:1], 20+further) },
		"ints":             func(g *api.Graph, further int) { g.Nodes[1].Attrs[9].Ints = make([]int64, 20+further) },
		"values, by inputs": func(g *api.Graph, further int) {
			g.In = slices.Repeat(good.In[:1], 3000-len(g.Nodes)-len(g.Inits)+further)
		},
		"values, by initializers": func(g *api.Graph, further int) {
			g.Inits = slices.Repeat(good.Inits[:1], 3000-len(g.Nodes)-len(g.In)+further)
		},
		"values, by nodes": func(g *api.Graph, further int) {
			g.In = slices.Repeat(good.In[:1], 2500-len(g.Inits))
			g.Nodes = make([]api.Node, 500+further)
		},
		"float": func(g *api.Graph, further int) { g.Nodes[1].Attrs[3].F = int64(api.NaN + further) },
		"int32": func(g *api.Graph, further int) { g.Inits[2].T.Data[1] = int64(math.MaxInt32 + further) },
		"bool":  func(g *api.Graph, further int) { g.Inits[5].T.Data[1] = int64(1 + further) },
	}
	for what, a := range wrongAttrs() {
		l["attribute "+what] = attr(a)
	}
	for what, x := range wrongTensors() {
		l["initializer "+what] = tensor(x)
		l["tensor of an attribute "+what] = attr(api.Attr{Kind: api.AttrTensor, T: x})
	}
	for _, typ := range []int{0, 2, 10, -1, math.MinInt, math.MaxInt} {
		l["value of the type "+strconv.Itoa(typ)] = value(api.Value{Type: typ})
	}
	return l
}

func wrongAttrs() map[string]api.Attr {
	one := api.Tensor{Type: api.Bool, Data: []int64{1}}
	l := map[string]api.Attr{
		"of F below":   {Kind: api.AttrFloat, F: -1},
		"of F above":   {Kind: api.AttrFloat, F: 1 << 32},
		"of F NaN":     {Kind: api.AttrFloat, F: 0xffc00000},
		"of no tensor": {Kind: api.AttrTensor},
	}
	// What the Kind does not name, each by itself.
	parts := map[string]api.Attr{
		"F": {F: 1}, "F below": {F: -1}, "I": {I: 1}, "S": {S: "s"}, "Ints": {Ints: []int64{0}},
		"T": {T: one}, "T's type": {T: api.Tensor{Type: 1}}, "T's dims": {T: api.Tensor{Dims: []int{1}}}, "T's data": {T: api.Tensor{Data: []int64{0}}},
	}
	for kind := -1; kind < 12; kind++ {
		name := map[int]string{1: "F", 2: "I", 3: "S", 4: "T", 7: "Ints"}[kind]
		for part, a := range parts {
			a.Kind = kind
			if name != "" && strings.HasPrefix(part, name) {
				continue
			}
			if kind == api.AttrTensor {
				a.T = one
			}
			l["of the kind "+strconv.Itoa(kind)+" with "+part] = a
		}
		if name == "" {
			l["of the kind "+strconv.Itoa(kind)] = api.Attr{Kind: kind}
		}
	}
	return l
}

func wrongTensors() map[string]api.Tensor {
	return map[string]api.Tensor{
		"without a type":     {Data: []int64{0}},
		"of no type":         {Type: 2, Data: []int64{0}},
		"without data":       {Type: 1},
		"with too much data": {Type: 1, Data: []int64{0, 0}},
		"with too few data":  {Type: 1, Dims: []int{3}, Data: []int64{0, 0}},
		"of nought":          {Type: 1, Dims: []int{0}},
		"too great":          {Type: 7, Dims: []int{65537}, Data: make([]int64, 65537)},
		"of too many dims":   {Type: 7, Dims: []int{1, 1, 1, 1, 1, 1, 1}, Data: []int64{0}},
		"of another NaN":     {Type: 1, Dims: []int{2}, Data: []int64{0, api.NaN + 1}},
		"of no int32":        {Type: 6, Data: []int64{1 << 31}},
		"of no bool":         {Type: 9, Data: []int64{-1}},
	}
}

func TestWhatMayBeTold(t *testing.T) {
	for what, edit := range edits() {
		g := someGraph()
		edit(&g, 0)
		expectTold(t, what, g)
		g = someGraph()
		edit(&g, 1)
		expectNotTold(t, what, g, api.ErrArg)
	}
}

func TestEncodeTooManyBytes(t *testing.T) {
	full := api.Named{T: api.Tensor{Type: api.Float, Dims: []int{65536}, Data: slices.Repeat([]int64{0x3f800000}, 65536)}}
	g := api.Graph{Inits: slices.Repeat([]api.Named{full}, 63)}
	if s := expectTold(t, "63 tensors", g); len(s) < 63*4*65536 {
		t.Errorf("P5.3: 63 tensors in %d bytes", len(s))
	}
	g.Inits = slices.Repeat([]api.Named{full}, 64)
	expectNotTold(t, "64 tensors", g, api.ErrLimit)
	g.Inits = slices.Repeat([]api.Named{full}, 3000)
	expectNotTold(t, "3000 tensors", g, api.ErrLimit)
	// R2: what may not be told is named first.
	g.Out = []api.Value{{Type: 2}}
	expectNotTold(t, "3000 tensors and a wrong output", g, api.ErrArg)
	// Half a gigabyte, if all of it were written: tensors may share their memory.
	n := api.Node{Attrs: slices.Repeat([]api.Attr{{Kind: api.AttrTensor, T: full.T}}, 20)}
	expectNotTold(t, "2000 tensors", api.Graph{Nodes: slices.Repeat([]api.Node{n}, 100)}, api.ErrLimit)
}

// TestEncodeToTheLastByte adds names until the text has just as many bytes as there may be, and one more.
func TestEncodeToTheLastByte(t *testing.T) {
	full := api.Named{T: api.Tensor{Type: api.Float, Dims: []int{65536}, Data: slices.Repeat([]int64{1}, 65536)}}
	g := api.Graph{Inits: slices.Repeat([]api.Named{full}, 63)}
	last := api.Named{T: api.Tensor{Type: api.Float, Dims: []int{64000}, Data: full.T.Data[:64000]}}
	g.Inits = append(g.Inits, last)
	left := api.MaxBytes - len(expectTold(t, "all but names", g))
	const beside = 6 // two bytes ahead of a node, two of its output, two ahead of its name
	for left > beside+99 {
		g.Nodes = append(g.Nodes, api.Node{Name: strings.Repeat("n", 93)})
		left -= beside + 93
	}
	g.Nodes = append(g.Nodes, api.Node{Name: strings.Repeat("n", left-beside)})
	if s := expectTold(t, "just as many as there may be", g); len(s) != api.MaxBytes {
		t.Fatalf("the test's own sum is wrong: %d", len(s)-api.MaxBytes)
	}
	g.Nodes[0].Name += "n"
	expectNotTold(t, "one byte more", g, api.ErrLimit)
}

// TestShortest reads elements in each form that there is for them: written again they take no more bytes than the shortest one.
func TestShortest(t *testing.T) {
	for typ, num := range map[int]int{api.Float: 4, api.Int32: 5, api.Int64: 7, api.Bool: 5} {
		for _, l := range [][]int64{{0}, {1}, {127}, {1 << 27}, {1 << 28}, {-1}, {math.MinInt32}, {1 << 55}, {1 << 56}, {math.MaxInt64}, {0, 0}, {-1, 0}, {-1, -1}, {1, -1, 1}, slices.Repeat([]int64{1}, 300), slices.Repeat([]int64{-1}, 300)} {
			var whole []uint64
			single, pack := "", packed(num, l...)
			for _, x := range l {
				whole = append(whole, uint64(x))
				single += number(num, x)
			}
			if typ == api.Float {
				pack, single = bytes(num, lowestFirst(4, whole...)), ""
				for _, x := range l {
					single += bits32(num, uint64(uint32(x)))
				}
			}
			for _, form := range []string{single, pack, bytes(9, lowestFirst(width(typ), whole...))} {
				s := inInit(number(1, int64(len(l))), number(2, int64(typ)), form)
				g, e := Decode(s)
				if e != api.OK {
					continue
				}
				if again := expectTold(t, "a tensor", g); len(again) > len(s) {
					t.Errorf("P5.3, P5.4: type %d, %d: %x written as %x", typ, l, s, again)
				}
			}
		}
	}
}

func randomText(r *rand.Rand) string {
	b := make([]byte, r.Intn(4))
	r.Read(b)
	return string(b)
}

func randomNumber(r *rand.Rand) int64 { return int64(r.Uint64()) >> r.Intn(64) }

func randomDims(r *rand.Rand) []int {
	var dims []int
	for range r.Intn(5) {
		dims = append(dims, 1+r.Intn(3))
	}
	return dims
}

func randomTensor(r *rand.Rand) api.Tensor {
	t := api.Tensor{Type: []int{api.Float, api.Int32, api.Int64, api.Bool}[r.Intn(4)], Dims: randomDims(r)}
	n := 1
	for _, d := range t.Dims {
		n *= d
	}
	for range n {
		x := randomNumber(r)
		switch t.Type {
		case api.Float:
			x = oneNaN(x & math.MaxUint32)
		case api.Int32:
			x = int64(int32(x))
		case api.Bool:
			x &= 1
		}
		t.Data = append(t.Data, x)
	}
	return t
}

func randomAttr(r *rand.Rand) api.Attr {
	a := api.Attr{Name: randomText(r), Kind: []int{1, 2, 3, 4, 7}[r.Intn(5)]}
	switch a.Kind {
	case api.AttrFloat:
		a.F = oneNaN(randomNumber(r) & math.MaxUint32)
	case api.AttrInt:
		a.I = randomNumber(r)
	case api.AttrString:
		a.S = randomText(r)
	case api.AttrTensor:
		a.T = randomTensor(r)
	case api.AttrInts:
		for range r.Intn(5) {
			a.Ints = append(a.Ints, randomNumber(r))
		}
	}
	return a
}

func randomValues(r *rand.Rand) []api.Value {
	var l []api.Value
	for range r.Intn(4) {
		l = append(l, api.Value{Name: randomText(r), Type: randomTensor(r).Type, Dims: randomDims(r)})
	}
	return l
}

func randomGraph(r *rand.Rand) api.Graph {
	g := api.Graph{Name: randomText(r), In: randomValues(r), Out: randomValues(r)}
	for range r.Intn(4) {
		g.Inits = append(g.Inits, api.Named{Name: randomText(r), T: randomTensor(r)})
	}
	for range r.Intn(4) {
		n := api.Node{Op: randomText(r), Name: randomText(r), Out: randomText(r)}
		for range r.Intn(4) {
			n.In = append(n.In, randomText(r))
		}
		for range r.Intn(4) {
			n.Attrs = append(n.Attrs, randomAttr(r))
		}
		g.Nodes = append(g.Nodes, n)
	}
	return g
}

func TestEncodeOfRandomGraphs(t *testing.T) {
	r := rand.New(rand.NewSource(1))
	for range 3000 {
		g := randomGraph(r)
		expectTold(t, "a random graph", g)
		if t.Failed() {
			return
		}
	}
}

// TestDecodeOfSpoiledTexts changes bytes of good texts: what can be read then may be told, in no more bytes; what can't has one of the four classes.
func TestDecodeOfSpoiledTexts(t *testing.T) {
	r := rand.New(rand.NewSource(2))
	read := map[api.Errno]int{}
	for range 30000 {
		s, _ := Encode(randomGraph(r))
		b := []byte(s)
		for range 1 + r.Intn(3) {
			at := r.Intn(len(b))
			switch r.Intn(4) {
			case 0:
				b[at] = byte(r.Intn(256))
			case 1:
				b[at] ^= 1 << r.Intn(8)
			case 2:
				b = slices.Insert(b, at, byte(r.Intn(32)))
			case 3:
				b = b[:max(1, at)]
			}
		}
		g, e := Decode(string(b))
		read[e]++
		if e != api.OK {
			if !same(g, api.Graph{}) {
				t.Fatalf("R3: %x: %v beside %d", b, g, e)
			}
			continue
		}
		again := expectTold(t, "what was read", g)
		if t.Failed() || len(again) > len(b) {
			t.Fatalf("P5.4: %x: written again in %d bytes, not %d", b, len(again), len(b))
		}
	}
	for _, e := range []api.Errno{api.OK, api.ErrWire, api.ErrGraph, api.ErrUnsupported} {
		if read[e] < 10 {
			t.Errorf("only %d texts had the answer %d: the test tells little", read[e], e)
		}
		delete(read, e)
	}
	delete(read, api.ErrLimit)
	if len(read) != 0 {
		t.Errorf("P4: other errors: %v", read)
	}
}
