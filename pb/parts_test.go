package pb

import (
	"math"
	"reflect"
	"slices"
	"strings"
	"testing"

	"mandrel/api"
)

// TestKindsOfAttributes reads each kind, by itself and with all that another one has, good or too great, beside it.
func TestKindsOfAttributes(t *testing.T) {
	own := map[int64]string{
		1: bits32(2, 0x40000000),
		2: number(3, math.MinInt64),
		3: bytes(4, "s"),
		4: bytes(5, number(2, api.Int32), number(5, -7)),
		7: number(8, 5) + packed(8, -6, math.MaxInt64) + bytes(8),
	}
	want := map[int64]api.Attr{
		1: {Name: "a", Kind: 1, F: 0x40000000},
		2: {Name: "a", Kind: 2, I: math.MinInt64},
		3: {Name: "a", Kind: 3, S: "s"},
		4: {Name: "a", Kind: 4, T: api.Tensor{Type: api.Int32, Data: []int64{-7}}},
		7: {Name: "a", Kind: 7, Ints: []int64{5, -6, math.MaxInt64}},
	}
	great := map[int64]string{
		1: bits32(2, 0xffffffff),
		2: number(3, -1),
		3: bytes(4, strings.Repeat("s", 101)),
		4: bytes(5, number(2, api.Bool), number(5, 1), bytes(8, "name")),
		7: packed(8, slices.Repeat([]int64{1}, 21)...),
	}
	for kind := range own {
		check := func(fields ...string) {
			t.Helper()
			got := attrOf(t, fields...)
			got.T = plainTensor(got.T)
			if !reflect.DeepEqual(got, want[kind]) {
				t.Errorf("P5.2, R4: attribute of %x: %v, not %v", fields, got, want[kind])
			}
		}
		name, typ := bytes(1, "a"), number(20, kind)
		check(name, own[kind], typ)
		check(typ, own[kind], name)
		for other := range own {
			if other != kind {
				check(name, own[kind], own[other], typ)
				check(typ, great[other], name, own[kind])
			}
		}
	}
}

func TestAttributesWithoutTheirValue(t *testing.T) {
	for kind, want := range map[int64]api.Attr{1: {Kind: 1}, 2: {Kind: 2}, 3: {Kind: 3}, 7: {Kind: 7}} {
		if got := attrOf(t, number(20, kind)); !reflect.DeepEqual(got, want) {
			t.Errorf("P5.2: attribute of the type %d alone: %v", kind, got)
		}
	}
	expectError(t, inAttr(number(20, 4)), api.ErrGraph)
	expectError(t, inAttr(number(20, 4), bytes(5)), api.ErrUnsupported)
	expectError(t, inAttr(number(20, 2), bytes(5)), api.ErrUnsupported)
}

func TestTypesOfAttributes(t *testing.T) {
	expectError(t, inAttr(), api.ErrUnsupported)
	for _, typ := range []int64{0, 5, 6, 8, 9, 10, 11, 14, -1, 256 + 1, 1<<32 + 1, 1<<32 + 2, math.MinInt64, math.MinInt64 + 1, math.MaxInt64} {
		expectError(t, inAttr(number(20, typ)), api.ErrUnsupported)
		expectError(t, inAttr(number(20, typ), bytes(1, strings.Repeat("n", 101))), api.ErrUnsupported)
	}
}

// nans are bits of NaNs.
func nans() []uint64 {
	return []uint64{0x7fc00000, 0x7fc00001, 0x7f800001, 0x7fffffff, 0xffc00000, 0xff800001, 0xffffffff}
}

// floats are bits of floats that are none.
func floats() []uint64 {
	return []uint64{0, 1, 0x3f800000, 0x7f7fffff, 0x7f800000, 0x80000000, 0x80000001, 0xbf800000, 0xff7fffff, 0xff800000}
}

func TestFloats(t *testing.T) {
	for i, u := range append(nans(), floats()...) {
		want := int64(u)
		if i < len(nans()) {
			want = 0x7fc00000
		}
		if a := attrOf(t, bits32(2, u), number(20, 1)); a.F != want {
			t.Errorf("P5.2: F of %x: %x", u, a.F)
		}
		float := number(2, api.Float)
		expectTensor(t, api.Float, nil, []int64{want}, float, bits32(4, u))
		expectTensor(t, api.Float, nil, []int64{want}, float, bytes(4, lowestFirst(4, u)))
		expectTensor(t, api.Float, nil, []int64{want}, float, bytes(9, lowestFirst(4, u)))
		expectTensor(t, api.Float, []int{3}, []int64{1, want, 2}, float, number(1, 3), bits32(4, 1), bytes(4, lowestFirst(4, u, 2)))
	}
}

func TestNumbersOfTensors(t *testing.T) {
	for _, l := range [][]int64{{0, 1}, {-1, 1}, {math.MinInt32, math.MaxInt32}} {
		expectTensor(t, api.Int32, []int{2}, l, number(2, api.Int32), number(1, 2), packed(5, l...))
		expectTensor(t, api.Int32, []int{2}, l, number(5, l[0]), number(1, 2), number(5, l[1]), number(2, api.Int32))
		expectTensor(t, api.Int32, []int{2}, l, number(5, l[0]), bytes(5), number(1, 2), packed(5, l[1]), number(2, api.Int32))
		expectTensor(t, api.Int32, []int{2}, l, number(2, api.Int32), number(1, 2), bytes(9, lowestFirst(4, uint64(l[0]), uint64(l[1]))))
	}
	for _, l := range [][]int64{{0, 1}, {-1, 1}, {math.MinInt64, math.MaxInt64}, {1 << 32, -1 << 33}} {
		expectTensor(t, api.Int64, []int{2}, l, number(2, api.Int64), number(1, 2), packed(7, l...))
		expectTensor(t, api.Int64, []int{2}, l, number(7, l[0]), number(1, 2), number(7, l[1]), number(2, api.Int64))
		expectTensor(t, api.Int64, []int{2}, l, number(2, api.Int64), number(1, 2), bytes(9, lowestFirst(8, uint64(l[0]), uint64(l[1]))))
	}
	for _, l := range [][]int64{{0, 1}, {1, 0}, {1, 1}} {
		expectTensor(t, api.Bool, []int{2}, l, number(2, api.Bool), number(1, 2), packed(5, l...))
		expectTensor(t, api.Bool, []int{2}, l, number(2, api.Bool), number(1, 2), number(5, l[0]), number(5, l[1]))
		expectTensor(t, api.Bool, []int{2}, l, number(2, api.Bool), number(1, 2), bytes(9, lowestFirst(1, uint64(l[0]), uint64(l[1]))))
	}
	// Numbers in long form are numbers.
	expectTensor(t, api.Int32, []int{2}, []int64{1, 0}, number(2, api.Int32), bytes(1, "\x82\x00"), bytes(5, "\x81\x80\x00\x80\x00"))
}

func TestDimsOfTensors(t *testing.T) {
	one := number(2, api.Bool)
	ones := func(n int) string { return packed(5, slices.Repeat([]int64{1}, n)...) }
	for _, dims := range [][]int64{nil, {1}, {6}, {2, 3}, {1, 1, 1, 1, 1, 1}, {3, 1, 2, 1}} {
		count, ints := 1, []int{}
		single := ""
		for _, d := range dims {
			count *= int(d)
			ints = append(ints, int(d))
			single += number(1, d)
		}
		data := slices.Repeat([]int64{1}, count)
		expectTensor(t, api.Bool, ints, data, one, packed(1, dims...), ones(count))
		expectTensor(t, api.Bool, ints, data, one, single, ones(count))
		k := len(dims) / 2
		expectTensor(t, api.Bool, ints, data, one, packed(1, dims[:k]...), ones(count), packed(1, dims[k:]...))
	}
	full := bytes(9, strings.Repeat("\x01", 65536))
	if g, e := Decode(inInit(one, number(1, 65536), full)); e != api.OK || len(g.Inits[0].T.Data) != 65536 {
		t.Errorf("P5.2: 65536 elements: %d", e)
	}
	expectNoTensor(t, api.ErrLimit, one, number(1, 65537), bytes(9, strings.Repeat("\x01", 65537)))
	for _, c := range refusedDims() {
		expectNoTensor(t, c.e, one, packed(1, c.dims...), ones(1))
		expectNoTensor(t, c.e, one, packed(1, c.dims...))
	}
}

// refusedDims are dims that may not be, with shape.Count's error.
func refusedDims() []struct {
	dims []int64
	e    api.Errno
} {
	return []struct {
		dims []int64
		e    api.Errno
	}{
		{[]int64{0}, api.ErrGraph}, {[]int64{-1}, api.ErrGraph}, {[]int64{2, 0, 3}, api.ErrGraph}, {[]int64{math.MinInt64}, api.ErrGraph}, {[]int64{-1 << 32}, api.ErrGraph}, {[]int64{65537, 0}, api.ErrGraph},
		{[]int64{65537}, api.ErrLimit}, {[]int64{256, 257}, api.ErrLimit}, {[]int64{1, 1, 1, 1, 1, 1, 1}, api.ErrLimit}, {[]int64{math.MaxInt64}, api.ErrLimit}, {[]int64{1<<32 + 1}, api.ErrLimit}, {[]int64{1 << 32, 1 << 32}, api.ErrLimit},
	}
}

func TestTensorsThatAreNone(t *testing.T) {
	two := number(1, 2)
	for _, typ := range []int64{0, 2, 3, 4, 5, 8, 10, 11, 16, -1, 1<<32 + 1, 1<<32 + 9, math.MinInt64, math.MaxInt64} {
		expectNoTensor(t, api.ErrUnsupported, number(2, typ), bits32(4, 1), number(5, 1), number(7, 1))
		expectNoTensor(t, api.ErrUnsupported, number(2, typ), bytes(9, "\x01"))
		// R2: the type comes ahead of the dims, and these ahead of the elements.
		expectNoTensor(t, api.ErrUnsupported, number(2, typ), number(1, 0))
		expectNoTensor(t, api.ErrUnsupported, number(2, typ), number(1, 65537))
	}
	for typ, num := range map[int64]int{api.Float: 4, api.Int32: 5, api.Int64: 7, api.Bool: 5} {
		head := number(2, typ) + two
		one := number(num, 1)
		if typ == api.Float {
			one = bits32(num, 1)
		}
		expectNoTensor(t, api.ErrGraph, head)
		expectNoTensor(t, api.ErrGraph, head, one)
		expectNoTensor(t, api.ErrGraph, head, one, one, one)
		w := map[int64]int{api.Float: 4, api.Int32: 4, api.Int64: 8, api.Bool: 1}[typ]
		for n := 1; n < 30; n++ {
			s := bytes(9, strings.Repeat("\x00", n))
			if n == 2*w {
				// What stands beside the raw bytes counts for nothing.
				expectTensor(t, int(typ), []int{2}, []int64{0, 0}, head, s)
				expectTensor(t, int(typ), []int{2}, []int64{0, 0}, head, s, one)
				expectTensor(t, int(typ), []int{2}, []int64{0, 0}, head, one, one, s)
				continue
			}
			expectNoTensor(t, api.ErrGraph, head, s)
			expectNoTensor(t, api.ErrGraph, head, one, one, s)
		}
		// Numbers of other types are not its own.
		for other := range map[int]bool{4: true, 5: true, 7: true} {
			good := number(other, 1)
			if other == 4 {
				good = bits32(other, 1)
			}
			if other != num {
				expectNoTensor(t, api.ErrGraph, head, good, good)
				expectTensor(t, int(typ), []int{2}, []int64{1, 1}, head, one, good, one)
			}
		}
	}
}

func TestWhatIsNoElement(t *testing.T) {
	for _, x := range []int64{math.MaxInt32 + 1, math.MinInt32 - 1, math.MaxUint32, math.MaxInt64, math.MinInt64} {
		expectNoTensor(t, api.ErrGraph, number(2, api.Int32), number(5, x))
		expectNoTensor(t, api.ErrGraph, number(2, api.Int32), number(1, 2), packed(5, 1, x))
		expectTensor(t, api.Int64, nil, []int64{x}, number(2, api.Int64), number(7, x))
	}
	for _, x := range []int64{2, -1, 255, 256, 1 << 32, math.MinInt64} {
		expectNoTensor(t, api.ErrGraph, number(2, api.Bool), number(5, x))
		expectNoTensor(t, api.ErrGraph, number(2, api.Bool), number(1, 2), packed(5, 1, x))
	}
	for b := 2; b < 256; b++ {
		expectError(t, inInit(number(2, api.Bool), bytes(9, string([]byte{byte(b)}))), api.ErrGraph)
	}
}

func TestPackedThatIsMalformed(t *testing.T) {
	for _, bad := range []string{"\x80", "\x01\xff", strings.Repeat("\xff", 10), strings.Repeat("\x80", 10) + "\x00"} {
		for _, num := range []int{1, 5, 7} {
			expectNoTensor(t, api.ErrWire, number(2, api.Bool), number(5, 1), bytes(num, bad))
		}
		expectError(t, inAttr(number(20, 2), bytes(8, bad)), api.ErrWire)
		expectError(t, inAttr(number(20, 7), bytes(8, bad), number(8, 1)), api.ErrWire)
	}
	for n := range 9 {
		fields := []string{number(2, api.Bool), number(5, 1), bytes(4, strings.Repeat("x", n))}
		if n%4 != 0 {
			expectNoTensor(t, api.ErrWire, fields...)
		} else {
			expectTensor(t, api.Bool, nil, []int64{1}, fields...)
		}
	}
}

func TestValues(t *testing.T) {
	for _, typ := range []int64{api.Float, api.Int32, api.Int64, api.Bool} {
		expectGraph(t, inTensorType(number(1, typ), bytes(2)), api.Graph{In: []api.Value{{Type: int(typ)}}})
	}
	for _, typ := range []int64{0, 2, 8, 10, -1, 1<<32 + 1, math.MaxInt64, math.MinInt64} {
		expectError(t, inTensorType(number(1, typ), bytes(2)), api.ErrUnsupported)
		expectError(t, inTensorType(number(1, typ), bytes(2, bytes(1, number(1, 0)))), api.ErrUnsupported)
	}
	expectError(t, inValue(), api.ErrUnsupported)
	expectError(t, inValue(bytes(1, "x")), api.ErrUnsupported)
	expectError(t, inType(), api.ErrUnsupported)
	expectError(t, inType(bytes(4, "a sequence's")), api.ErrUnsupported)
	expectError(t, inTensorType(), api.ErrUnsupported)
	expectError(t, inTensorType(number(1, api.Float)), api.ErrUnsupported)
	expectError(t, inTensorType(bytes(2)), api.ErrUnsupported)
	expectError(t, inDim(), api.ErrUnsupported)
	expectError(t, inDim(bytes(2, "batch")), api.ErrUnsupported)
	expectError(t, inDim(number(1, 3), bytes(2, "batch")), api.ErrUnsupported)
	expectError(t, inDim(bytes(2), number(1, 3)), api.ErrUnsupported)
	expectError(t, inShape(bytes(1, number(1, 3)), bytes(1)), api.ErrUnsupported)
	dims := func(l ...int64) string {
		s := ""
		for _, d := range l {
			s += bytes(1, number(1, d))
		}
		return s
	}
	expectGraph(t, inShape(dims(65536)), api.Graph{In: []api.Value{{Type: api.Int32, Dims: []int{65536}}}})
	expectGraph(t, inShape(dims(3, 1, 2, 1, 1, 5)), api.Graph{In: []api.Value{{Type: api.Int32, Dims: []int{3, 1, 2, 1, 1, 5}}}})
	for _, c := range refusedDims() {
		expectError(t, inShape(dims(c.dims...)), c.e)
		expectError(t, inGraph(bytes(12, bytes(2, bytes(1, number(1, api.Int32), bytes(2, dims(c.dims...)))))), c.e)
	}
}

// TestFirstError puts two errors or more into one model: the first that is met is told.
func TestFirstError(t *testing.T) {
	long := strings.Repeat("n", 101)
	badWire, badKind := "\x0b", number(1, 0)
	noNode := bytes(1)                                                               // ErrUnsupported
	noInit := bytes(5, number(2, api.Bool))                                          // ErrGraph
	noValue := bytes(11, valueFields(long))                                          // ErrLimit
	zero := bytes(12, bytes(2, bytes(1, number(1, 1), bytes(2, bytes(1, badKind))))) // ErrGraph
	for _, c := range []struct {
		s    string
		want api.Errno
	}{
		// Of a message's bytes as a whole ahead of all its fields, and of these in the order in which they stand.
		{inGraph(noNode, badWire), api.ErrWire},
		{inGraph(noNode, badKind), api.ErrUnsupported},
		{inGraph(badKind, noNode), api.ErrWire},
		{inGraph(noNode, noInit, noValue), api.ErrUnsupported},
		{inGraph(noInit, noValue, noNode), api.ErrGraph},
		{inGraph(noValue, noNode, noInit), api.ErrLimit},
		{inGraph(zero, noValue, noNode), api.ErrGraph},
		{inGraph(bytes(2, long), noNode), api.ErrUnsupported},
		{inGraph(strings.Repeat(bytes(1, bytes(2, "y")), 1001), badKind), api.ErrWire},
		{inGraph(strings.Repeat(bytes(1, bytes(2, "y")), 1001), noNode), api.ErrUnsupported},
		// What is joined is read behind all fields.
		{inGraph(noNode) + number(7, 0), api.ErrWire},
		{inGraph(noNode) + badWire, api.ErrWire},
		{inAttr(bytes(5, number(2, api.Bool)), number(1, 0)), api.ErrWire},
		{inAttr(number(20, 9), bytes(5, number(2, api.Bool))), api.ErrGraph},
		{inAttr(bytes(1, long), number(20, 2), bytes(5, number(2, api.Bool))), api.ErrGraph},
		{inValue(bytes(2), number(1, 0)), api.ErrWire},
		{inType(bytes(1), number(1, 0)), api.ErrWire},
		{inTensorType(bytes(2, bytes(1)), bytes(1)), api.ErrWire},
		// What the tables say last, in its order.
		{inNode(bytes(7, "other"), bytes(3, long)), api.ErrUnsupported},
		{inNode(bytes(2, long)), api.ErrUnsupported},
		{inNode(bytes(7, "other"), strings.Repeat(bytes(1, "x"), 21)), api.ErrUnsupported},
		{inNode(bytes(7, "other"), bytes(5, bytes(1, long), number(20, 2))), api.ErrLimit},
		{inNode(bytes(2, "z"), bytes(5, number(20, 4))), api.ErrGraph},
		{inAttr(number(20, 4), bytes(1, long)), api.ErrGraph},
		{inAttr(number(20, 5), packed(8, slices.Repeat([]int64{1}, 21)...)), api.ErrUnsupported},
		{inInit(number(2, 3), number(1, 0), bytes(8, long)), api.ErrUnsupported},
		{inInit(number(2, api.Bool), number(1, 0), bytes(8, long)), api.ErrGraph},
		{inInit(number(2, api.Bool), bytes(8, long)), api.ErrGraph},
		{inInit(number(2, api.Bool), number(5, 2), bytes(8, long)), api.ErrGraph},
		{inInit(number(2, api.Bool), number(1, 65537), bytes(9, "\x02")), api.ErrLimit},
		{inInit(number(2, api.Bool), bytes(5, "\x80"), number(1, 0)), api.ErrWire},
		{inValue(bytes(1, long)), api.ErrUnsupported},
		{inValue(bytes(1, long), bytes(2)), api.ErrUnsupported},
		{inValue(bytes(1, long), bytes(2, bytes(1, number(1, 1), bytes(2, bytes(1, number(1, 0)))))), api.ErrGraph},
		{inTensorType(bytes(2, bytes(1, number(2, 0)))), api.ErrWire},
		{inTensorType(number(1, 3), bytes(2, bytes(1, number(1, 0)))), api.ErrUnsupported},
		{inShape(bytes(1, number(1, 0)), bytes(1)), api.ErrUnsupported},
		{inShape(bytes(1), bytes(1, number(2, 0))), api.ErrUnsupported},
		{inDim(bytes(2, "batch"), bits32(1, 0)), api.ErrWire},
	} {
		expectError(t, c.s, c.want)
	}
}

func TestCheck(t *testing.T) {
	elements := map[int][]int64{api.Float: {0, api.NaN, 0x7f800000, math.MaxUint32 &^ 0x7fffff}, api.Int32: {math.MinInt32, math.MaxInt32}, api.Int64: {math.MinInt64, math.MaxInt64}, api.Bool: {0, 1}}
	none := map[int][]int64{api.Float: {-1, api.NaN + 1, 1 << 32, 0x7f800001, 0xffc00000}, api.Int32: {math.MinInt32 - 1, math.MaxInt32 + 1}, api.Bool: {-1, 2}}
	for typ, l := range elements {
		for _, x := range l {
			if e := Check(api.Tensor{Type: typ, Data: []int64{x}}); e != api.OK {
				t.Errorf("P5.1: type %d, %x: %d", typ, x, e)
			}
		}
		n := len(l)
		for more, want := range map[int]api.Errno{-1: api.ErrGraph, 0: api.OK, 1: api.ErrGraph} {
			if e := Check(api.Tensor{Type: typ, Dims: []int{1, n + more, 1}, Data: l}); n+more > 0 && e != want {
				t.Errorf("P5.1: type %d, %d elements for dims of %d: %d", typ, n, n+more, e)
			}
		}
		for _, x := range none[typ] {
			for _, data := range [][]int64{{x, 0, 0}, {0, x, 0}, {0, 0, x}} {
				if e := Check(api.Tensor{Type: typ, Dims: []int{3}, Data: data}); e != api.ErrGraph {
					t.Errorf("P5.1: type %d, %x: %d", typ, data, e)
				}
			}
		}
		if e := Check(api.Tensor{Type: typ}); e != api.ErrGraph {
			t.Errorf("P5.1: type %d, no elements: %d", typ, e)
		}
		if e := Check(api.Tensor{Type: typ, Dims: []int{256, 256}, Data: make([]int64, 65536)}); e != api.OK {
			t.Errorf("P5.1: type %d, 65536 elements: %d", typ, e)
		}
		for _, c := range refusedDims() {
			if e := Check(api.Tensor{Type: typ, Dims: toInts(c.dims), Data: []int64{-5}}); e != c.e {
				t.Errorf("P5.1: type %d, dims %d: %d", typ, c.dims, e)
			}
		}
	}
	for _, typ := range []int{0, 2, 3, 5, 8, 10, -1, math.MinInt, math.MaxInt} {
		for _, dims := range [][]int{nil, {0}, {65537}} {
			if e := Check(api.Tensor{Type: typ, Dims: dims, Data: []int64{1}}); e != api.ErrUnsupported {
				t.Errorf("P5.1: type %d, dims %d: %d", typ, dims, e)
			}
		}
	}
}
