package pb

import (
	"reflect"
	"slices"
	"strings"
	"testing"

	"mandrel/api"
	"mandrel/wire"
)

func TestDecodeExamples(t *testing.T) {
	expectError(t, "", api.ErrGraph)
	expectError(t, "\x08\x08", api.ErrGraph)
	expectGraph(t, "\x3a\x00", api.Graph{})
	expectGraph(t, "\x3a\x02\x12\x00", api.Graph{})
	expectError(t, "\x38\x01", api.ErrWire)
	expectError(t, "\x3a\x09\x0a\x07\x22\x04Relu\x10\x00", api.ErrWire)
	expectError(t, "\x08", api.ErrWire)
}

func TestDecodeWhole(t *testing.T) {
	float := func(dims ...int64) string {
		s := ""
		for _, d := range dims {
			s += bytes(1, number(1, d))
		}
		return bytes(2, bytes(1, number(1, api.Float), bytes(2, s)))
	}
	conv := bytes(1, "x") + bytes(1, "w") + bytes(2, "c") + bytes(3, "first") + bytes(4, "Conv") +
		bytes(5, bytes(1, "group"), number(3, -2), number(20, 2)) +
		bytes(5, bytes(1, "pads"), packed(8, 1, -1, 1<<62), number(20, 7)) +
		bytes(5, bytes(1, "eps"), bits32(2, 0x3f800000), number(20, 1)) +
		bytes(5, bytes(1, "then"), bytes(4, "Relu"), number(20, 3)) +
		bytes(5, bytes(1, "t"), bytes(5, number(1, 2), number(2, api.Int64), packed(7, 5, -6), bytes(8, "dropped")), number(20, 4)) +
		bytes(7, "ai.onnx")
	s := number(1, 8) + inGraph(
		bytes(12, bytes(1, "y"), float()),
		bytes(1, conv),
		bytes(11, bytes(1, "x"), float(2, 3)),
		bytes(2, "net"),
		bytes(5, packed(1, 2, 1), number(2, api.Float), bytes(9, lowestFirst(4, 0x3f800000, 0x80000000)), bytes(8, "w")),
		bytes(1, bytes(1, "c"), bytes(1), bytes(2), bytes(4, "Add")),
		bytes(11, bytes(1, "b"), bytes(2, bytes(1, number(1, api.Bool), bytes(2)))),
	)
	expectGraph(t, s, api.Graph{
		Name: "net",
		Nodes: []api.Node{
			{Op: "Conv", Name: "first", In: []string{"x", "w"}, Out: "c", Attrs: []api.Attr{
				{Name: "group", Kind: api.AttrInt, I: -2},
				{Name: "pads", Kind: api.AttrInts, Ints: []int64{1, -1, 1 << 62}},
				{Name: "eps", Kind: api.AttrFloat, F: 0x3f800000},
				{Name: "then", Kind: api.AttrString, S: "Relu"},
				{Name: "t", Kind: api.AttrTensor, T: api.Tensor{Type: api.Int64, Dims: []int{2}, Data: []int64{5, -6}}},
			}},
			{Op: "Add", In: []string{"c", ""}},
		},
		In:    []api.Value{{Name: "x", Type: api.Float, Dims: []int{2, 3}}, {Name: "b", Type: api.Bool}},
		Out:   []api.Value{{Name: "y", Type: api.Float}},
		Inits: []api.Named{{Name: "w", T: api.Tensor{Type: api.Float, Dims: []int{2, 1}, Data: []int64{0x3f800000, 0x80000000}}}},
	})
}

// TestKindsOfFields puts each field that a table knows, as each kind, behind a good message.
func TestKindsOfFields(t *testing.T) {
	for _, m := range messages() {
		if _, e := Decode(m.with("")); e != api.OK {
			t.Fatalf("%s: the test's own is wrong: %d", m.name, e)
		}
		for num, good := range m.kinds {
			for kind, field := range map[int]string{api.WireVarint: number(num, 1), api.Wire64: bits64(num, 1), api.WireBytes: bytes(num), api.Wire32: bits32(num, 1)} {
				_, e := Decode(m.with(field))
				if slices.Contains(good, kind) == (e == api.ErrWire) {
					t.Errorf("P5.2: %s: field %d of the kind %d: %d", m.name, num, kind, e)
				}
				if e == api.ErrWire {
					// A field of the right kind behind it, where the last one counts, does not mend it.
					for _, right := range []string{number(num, 1), bytes(num), bits32(num, 1)} {
						expectError(t, m.with(field+right), api.ErrWire)
					}
				}
			}
		}
	}
}

func TestFieldsThatNoTableKnows(t *testing.T) {
	for _, m := range messages() {
		want, _ := Decode(m.with(""))
		for _, num := range []int{1, 2, 3, 4, 5, 6, 7, 8, 9, 10, 11, 12, 13, 14, 15, 16, 19, 20, 21, 27, 1000, 536870911} {
			if m.kinds[num] != nil {
				continue
			}
			for _, field := range []string{number(num, -1), bits64(num, 7), bytes(num, "\xff\xff"), bytes(num), bits32(num, 7)} {
				g, e := Decode(m.with(field))
				if e != api.OK || !same(g, want) {
					t.Errorf("P5.4: %s with %x: %v, %d", m.name, field, g, e)
				}
			}
		}
	}
}

func TestMalformedMessages(t *testing.T) {
	for _, m := range messages() {
		for _, bad := range []string{"\x0b", "\x00", "\xff", "\x12\x05a", "\x0a", "\x0a\x80"} {
			expectError(t, m.with(bad), api.ErrWire)
		}
	}
	expectError(t, "\x3a", api.ErrWire)
	expectError(t, "\x3a\x01", api.ErrWire)
}

func TestDecodeTooManyBytes(t *testing.T) {
	head := bytes(7)
	pad := func(n int) string { return "\x12" + wire.Varint(uint64(n)) + strings.Repeat("\x0b", n) }
	expectGraph(t, head+pad(api.MaxBytes-len(head)-5), api.Graph{})
	expectError(t, head+pad(api.MaxBytes-len(head)-4), api.ErrLimit)
	expectError(t, strings.Repeat("\x0b", api.MaxBytes+1), api.ErrLimit)
	expectError(t, strings.Repeat("\x0b", api.MaxBytes), api.ErrWire)
}

func TestFieldsThatStandTwice(t *testing.T) {
	// many
	expectGraph(t, inNode(bytes(1, "a"), bytes(4, "Op"), bytes(1), bytes(1, "a")), api.Graph{Nodes: []api.Node{{Op: "Op", In: []string{"a", "", "a"}, Out: "y"}}})
	// last
	expectGraph(t, inGraph(bytes(2, "one"), bytes(2, "two")), api.Graph{Name: "two"})
	expectGraph(t, inGraph(bytes(2, "one"), bytes(2)), api.Graph{})
	expectGraph(t, inGraph(bytes(2, strings.Repeat("n", 101)), bytes(2, "two")), api.Graph{Name: "two"})
	expectGraph(t, inNode(bytes(3, "a"), bytes(4, "b"), bytes(3, "c"), bytes(4, "d"), bytes(7, "other"), bytes(7)), api.Graph{Nodes: []api.Node{{Op: "d", Name: "c", Out: "y"}}})
	expectError(t, inNode(bytes(7), bytes(7, "other")), api.ErrUnsupported)
	a := attrOf(t, bytes(1, "a"), number(20, 9), number(20, 2), number(3, 5), number(3, 6), bytes(1, "b"))
	if !reflect.DeepEqual(a, api.Attr{Name: "b", Kind: api.AttrInt, I: 6}) {
		t.Errorf("P5.2: the last one counts: %v", a)
	}
	a = attrOf(t, bits32(2, 1), bits32(2, 2), number(20, 1))
	if a.F != 2 {
		t.Errorf("P5.2: the last one counts: %v", a)
	}
	a = attrOf(t, bytes(4, "1"), bytes(4, "2"), number(20, 3))
	if a.S != "2" {
		t.Errorf("P5.2: the last one counts: %v", a)
	}
	expectTensor(t, api.Bool, nil, []int64{0}, number(2, 55), bytes(9, "\x01"), bytes(9, "\x00"), number(2, api.Bool))
	expectTensor(t, api.Bool, nil, []int64{1}, bytes(9, "\x00"), number(5, 1), bytes(9), number(2, api.Bool))
	expectGraph(t, inInit(number(2, api.Bool), number(5, 1), bytes(8, "one"), bytes(8, "two")), api.Graph{Inits: []api.Named{{Name: "two", T: api.Tensor{Type: api.Bool, Data: []int64{1}}}}})
	expectGraph(t, inValue(bytes(1, "one"), valueFields("two")), api.Graph{In: []api.Value{{Name: "two", Type: api.Float, Dims: []int{2}}}})
	expectGraph(t, inTensorType(number(1, 55), number(1, api.Int64), bytes(2)), api.Graph{In: []api.Value{{Type: api.Int64}}})
	expectGraph(t, inDim(number(1, 0), number(1, 4)), api.Graph{In: []api.Value{{Type: api.Int32, Dims: []int{4}}}})
}

// TestJoinedFields cuts each joined message at each of its bytes: where it is cut does not matter.
func TestJoinedFields(t *testing.T) {
	float := number(1, api.Float)
	dims := bytes(1, number(1, 2)) + bytes(1, number(1, 300))
	tensor := packed(1, 2, 1) + number(2, api.Int32) + packed(5, 1, -1)
	for name, c := range map[string]struct {
		num   int
		inner string
		with  func(field string) string
	}{
		"graph":       {7, bytes(2, "net") + bytes(11, valueFields("x")), func(x string) string { return x }},
		"t":           {5, tensor, func(x string) string { return inAttr(number(20, 4), x) }},
		"type":        {2, bytes(1, float, bytes(2, dims)), func(x string) string { return inValue(x) }},
		"tensor type": {1, float + bytes(2, dims), func(x string) string { return inType(x) }},
		"shape":       {2, dims, func(x string) string { return inTensorType(float, x) }},
	} {
		want, e := Decode(c.with(bytes(c.num, c.inner)))
		if e != api.OK {
			t.Fatalf("%s: the test's own is wrong: %d", name, e)
		}
		for i := range len(c.inner) + 1 {
			for k := range len(c.inner) + 1 - i {
				cut := bytes(c.num, c.inner[:i]) + number(99, 1) + bytes(c.num, c.inner[i:i+k]) + bytes(c.num, c.inner[i+k:])
				g, e := Decode(c.with(cut))
				if e != api.OK || !same(g, want) {
					t.Fatalf("P5.2: %s, cut at %d and %d: %v, %d", name, i, i+k, g, e)
				}
			}
		}
	}
	// Each part by itself is good, all of them together are more.
	expectGraph(t, inGraph(bytes(2, "one"))+inGraph(bytes(11, valueFields("x")))+inGraph(bytes(2, "two")), api.Graph{Name: "two", In: []api.Value{{Name: "x", Type: api.Float, Dims: []int{2}}}})
	expectGraph(t, inTensorType(float, bytes(2, bytes(1, number(1, 2))), bytes(2, bytes(1, number(1, 3)))), api.Graph{In: []api.Value{{Type: api.Float, Dims: []int{2, 3}}}})
}

// TestManyJoinedParts reads a graph of very many parts: joined one by one it would take minutes.
func TestManyJoinedParts(t *testing.T) {
	name := strings.Repeat("n", 100)
	part := ""
	for _, c := range bytes(2, name) {
		part += bytes(7, string(c))
	}
	s := strings.Repeat(part, api.MaxBytes/8/len(part))
	expectGraph(t, s, api.Graph{Name: name})
}

func TestNames(t *testing.T) {
	for n, want := range map[int]api.Errno{0: api.OK, 99: api.OK, 100: api.OK, 101: api.ErrLimit, 1000: api.ErrLimit} {
		name := strings.Repeat("n", n)
		for what, s := range map[string]string{
			"graph":            inGraph(bytes(2, name)),
			"input":            inNode(bytes(1, "x"), bytes(1, name), bytes(1, "z")),
			"output":           inGraph(bytes(1, bytes(2, name))),
			"node":             inNode(bytes(3, name)),
			"operator":         inNode(bytes(4, name)),
			"attribute":        inAttr(bytes(1, name), number(20, 2)),
			"string":           inAttr(bytes(4, name), number(20, 3)),
			"initializer":      inInit(number(2, api.Bool), number(5, 1), bytes(8, name)),
			"dropped":          inAttr(number(20, 4), bytes(5, number(2, api.Bool), number(5, 1), bytes(8, name))),
			"dropped, counts ": inAttr(number(20, 2), bytes(5, number(2, api.Bool), number(5, 1), bytes(8, name))),
			"value":            inValue(valueFields(name)),
			"value of output":  inGraph(bytes(12, valueFields(name))),
		} {
			if g, e := Decode(s); e != want || e != api.OK && !reflect.DeepEqual(g, api.Graph{}) {
				t.Errorf("P5.2: %s with a name of %d bytes: %d, not %d", what, n, e, want)
			}
		}
	}
}

func TestHowMany(t *testing.T) {
	node := bytes(1, bytes(2, "y"))
	in, out := bytes(11, valueFields("x")), bytes(12, valueFields("x"))
	initial := bytes(5, number(2, api.Bool), number(5, 1))
	many := func(counts [4]int) string {
		s := ""
		for i, one := range []string{node, in, initial, out} {
			s += strings.Repeat(one, counts[i])
		}
		return inGraph(s)
	}
	for counts, want := range map[[4]int]api.Errno{
		{1000, 0, 0, 0}:          api.OK,
		{1001, 0, 0, 0}:          api.ErrLimit,
		{0, 3000, 0, 0}:          api.OK,
		{0, 3001, 0, 0}:          api.ErrLimit,
		{0, 0, 3000, 0}:          api.OK,
		{0, 0, 3001, 0}:          api.ErrLimit,
		{1000, 1000, 1000, 3000}: api.OK,
		{1000, 1000, 1001, 0}:    api.ErrLimit,
		{1000, 1001, 1000, 0}:    api.ErrLimit,
		{999, 1001, 1001, 0}:     api.ErrLimit,
		{1, 1, 1, 3000}:          api.OK,
		{0, 0, 0, 3001}:          api.ErrLimit,
	} {
		g, e := Decode(many(counts))
		if e != want || e == api.OK && [4]int{len(g.Nodes), len(g.In), len(g.Inits), len(g.Out)} != counts {
			t.Errorf("P5.2: nodes, inputs, initializers, outputs %d: %d, not %d", counts, e, want)
		}
	}
	for n, want := range map[int]api.Errno{0: api.OK, 19: api.OK, 20: api.OK, 21: api.ErrLimit, 500: api.ErrLimit} {
		list := slices.Repeat([]int64{1}, n)
		expectEither(t, inNode(strings.Repeat(bytes(1, "x"), n)), want)
		expectEither(t, inNode(strings.Repeat(bytes(5, number(20, 2)), n)), want)
		expectEither(t, inAttr(number(20, 7), strings.Repeat(number(8, 1), n)), want)
		expectEither(t, inAttr(number(20, 7), packed(8, list...)), want)
		expectEither(t, inAttr(number(20, 7), packed(8, list[:n/2]...), packed(8, list[n/2:]...)), want)
	}
}

func TestDomainsAndOutputs(t *testing.T) {
	for domain, want := range map[string]api.Errno{"": api.OK, "ai.onnx": api.OK, "ai.onnx.ml": api.ErrUnsupported, "AI.ONNX": api.ErrUnsupported, " ": api.ErrUnsupported, "ai.onnx\x00": api.ErrUnsupported, strings.Repeat("d", 101): api.ErrUnsupported} {
		expectEither(t, inNode(bytes(7, domain)), want)
	}
	expectError(t, inGraph(bytes(1)), api.ErrUnsupported)
	expectError(t, inGraph(bytes(1, bytes(1, "x"), bytes(4, "Relu"))), api.ErrUnsupported)
	expectError(t, inNode(bytes(2, "z")), api.ErrUnsupported)
	expectError(t, inNode(bytes(2)), api.ErrUnsupported)
	expectGraph(t, inGraph(bytes(1, bytes(2))), api.Graph{Nodes: []api.Node{{}}})
}
