package schema

import (
	"math"
	"reflect"
	"slices"
	"strings"
	"testing"
	"unsafe"

	"mandrel/api"
)

// allOf is a node, of no operator, with attributes of all kinds under each of two names; and more of each behind.
func allOf() api.Node {
	var n api.Node
	for i := range int64(2) {
		for _, name := range []string{"a", "b"} {
			for _, kind := range []int{0, 3, 1, 4, 2, 7, 9} {
				n.Attrs = append(n.Attrs, api.Attr{Name: name, Kind: kind, F: 10 + i, I: 20 + i, S: "Neg", Ints: []int64{30 + i, int64(name[0])}})
			}
		}
	}
	return n
}

func TestInt(t *testing.T) {
	n := allOf()
	if x := Int(n, "a", 7); x != 20 {
		t.Errorf("P6.2: Int: %d", x)
	}
	if x := Bits(n, "b", 7); x != 10 {
		t.Errorf("P6.2: Bits: %d", x)
	}
	if l := Ints(n, "b", nil); !slices.Equal(l, []int64{30, 'b'}) {
		t.Errorf("P6.2: Ints: %d", l)
	}
	for _, other := range []int64{0, -1, math.MinInt64, math.MaxInt64} {
		for _, name := range []string{"", "c", "A", "ab"} {
			if Int(n, name, other) != other || Bits(n, name, other) != other || !slices.Equal(Ints(n, name, []int64{other, 5}), []int64{other, 5}) {
				t.Errorf("P6.2: %q, which is not there, has another value than %d", name, other)
			}
		}
		if Int(api.Node{}, "a", other) != other || Bits(api.Node{}, "a", other) != other {
			t.Errorf("P6.2: a node without attributes has another value than %d", other)
		}
	}
	if l := Ints(api.Node{}, "a", nil); len(l) != 0 {
		t.Errorf("P6.2: Ints of nothing: %d", l)
	}
}

// TestKindsThatAreAskedFor has one attribute of one Kind, with all values in it: just the call of that Kind answers it.
func TestKindsThatAreAskedFor(t *testing.T) {
	for kind := -1; kind < 15; kind++ {
		n := api.Node{Op: "What", Attrs: []api.Attr{{Name: "a", Kind: kind, F: 1, I: 2, Ints: []int64{3}}}}
		got := []int64{Bits(n, "a", 7), Int(n, "a", 7), Ints(n, "a", []int64{7})[0]}
		want := []int64{7, 7, 7}
		switch kind {
		case api.AttrFloat:
			want[0] = 1
		case api.AttrInt:
			want[1] = 2
		case api.AttrInts:
			want[2] = 3
		}
		if !slices.Equal(got, want) {
			t.Errorf("P6.2: kind %d: %d, not %d", kind, got, want)
		}
	}
	// What is there counts, also if it is nought, empty, or no element.
	n := api.Node{Attrs: []api.Attr{{Name: "i", Kind: api.AttrInt}, {Name: "f", Kind: api.AttrFloat, F: -5}, {Name: "l", Kind: api.AttrInts}, {Kind: api.AttrInt, I: 9}}}
	if Int(n, "i", 7) != 0 || Bits(n, "f", 7) != -5 || len(Ints(n, "l", []int64{7})) != 0 || Int(n, "", 7) != 9 {
		t.Errorf("P6.2: what is nought does not count")
	}
}

func then(s string) api.Attr { return api.Attr{Name: "then", Kind: api.AttrString, S: s} }

func expectThen(t *testing.T, n api.Node, want api.Errno, ops ...string) {
	t.Helper()
	if l, e := Then(n); e != want || !slices.Equal(l, ops) {
		t.Errorf("P6.3: %.300v: %q, %d, not %q, %d", n, l, e, ops, want)
	}
}

func TestThen(t *testing.T) {
	expectThen(t, api.Node{}, api.OK)
	expectThen(t, allOf(), api.OK)
	for _, op := range unaries() {
		expectThen(t, with(api.Node{Op: "What"}, then(op)), api.OK, op)
		expectThen(t, with(api.Node{}, then(op+","+op+",Neg")), api.OK, op, op, "Neg")
	}
	all := slices.Concat(unaries(), unaries(), unaries())
	expectThen(t, with(api.Node{}, then(strings.Join(all, ","))), api.OK, all...)
	// Any node: longer than a file could have it.
	expectThen(t, with(api.Node{}, then(strings.Repeat("Neg,", 1000)+"Abs")), api.OK, append(slices.Repeat([]string{"Neg"}, 1000), "Abs")...)
	for _, s := range []string{"", ",", "Relu,", ",Relu", "Relu,,Neg", "Relu Neg", "Relu, Neg", " Relu", "Relu ", "relu", "RELU", "Rel", "Relus", "Relu;Neg", "Neg,Add", "Add", "Where", "Clip", "Cast", "then", "Softmax", "Relu,\x00", strings.Repeat("Neg,", 1000)} {
		expectThen(t, with(api.Node{}, then(s)), api.ErrGraph)
	}
	for op := range rows() {
		if !slices.Contains(unaries(), op) {
			expectThen(t, with(api.Node{}, then(op)), api.ErrGraph)
			expectThen(t, with(api.Node{}, then("Neg,"+op)), api.ErrGraph)
		}
	}
}

func TestWhichThenCounts(t *testing.T) {
	for kind := -1; kind < 15; kind++ {
		if kind != api.AttrString {
			other := api.Attr{Name: "then", Kind: kind, S: "Abs"}
			expectThen(t, with(api.Node{}, other), api.OK)
			expectThen(t, with(api.Node{}, other, then("Neg")), api.OK, "Neg")
		}
	}
	expectThen(t, with(api.Node{}, then("Neg"), then("Abs")), api.OK, "Neg")
	expectThen(t, with(api.Node{}, then("Neg"), then("What")), api.OK, "Neg")
	expectThen(t, with(api.Node{}, then(""), then("Neg")), api.ErrGraph)
	expectThen(t, with(api.Node{}, api.Attr{Name: "Then", Kind: api.AttrString, S: "Neg"}), api.OK)
}

// spoil overwrites a list and its spare room.
func spoil(l []int64) {
	for i := range l[:cap(l)] {
		l[:cap(l)][i] = -77
	}
}

func TestMemory(t *testing.T) {
	room, spare := []int64{1, 2, 3, 4, 5, 6, 7, 8}, []int64{1, 2, 3, 4, 5, 6, 7, 8}
	for size := range 7 {
		n := api.Node{Op: "Transpose", In: inputs(1), Out: "z", Attrs: []api.Attr{{Name: "perm", Kind: api.AttrInts, Ints: room[:size]}, then("Relu,Neg")}}
		other := room[:size]
		for range 2 {
			for _, name := range []string{"perm", "axes"} {
				l := Ints(n, name, other)
				if !slices.Equal(l, spare[:size]) {
					t.Errorf("R6: Ints of %q: %d behind a change of its answer", name, l)
				}
				spoil(l)
				if !slices.Equal(room, spare) {
					t.Fatalf("R5: Ints of %q shares memory with what it is given", name)
				}
			}
			ops, _ := Then(n)
			if !slices.Equal(ops, []string{"Relu", "Neg"}) {
				t.Errorf("R6: Then: %q behind a change of its answer", ops)
			}
			clear(ops[:cap(ops)])
		}
	}
}

func TestTextsOfThenAreNew(t *testing.T) {
	s := strings.Clone("Relu,Identity,Neg")
	from := uintptr(unsafe.Pointer(unsafe.StringData(s)))
	l, _ := Then(with(api.Node{}, then(s)))
	for _, op := range l {
		at := uintptr(unsafe.Pointer(unsafe.StringData(op)))
		if at >= from && at < from+uintptr(len(s)) {
			t.Errorf("R5: %q, which Then answers, lies within its argument", op)
		}
	}
}

func TestNothingIsChanged(t *testing.T) {
	for op := range rows() {
		for _, n := range []api.Node{goodNode(op), with(goodNode(op), then("Neg")), with(goodNode(op), attrOf("what", api.AttrInt)), with(goodNode(op), then("What"))} {
			n.In = append(slices.Clone(n.In), "more", "more")[:len(n.In)]
			n.Attrs = append(slices.Clone(n.Attrs), attrOf("more", 2), attrOf("more", 2))[:len(n.Attrs)]
			in, attrs := slices.Clone(n.In[:cap(n.In)]), slices.Clone(n.Attrs[:cap(n.Attrs)])
			e := Check(n)
			Then(n)
			if !slices.Equal(n.In[:cap(n.In)], in) || !reflect.DeepEqual(n.Attrs[:cap(n.Attrs)], attrs) {
				t.Errorf("R5: %v is changed", n)
			}
			if again := Check(n); again != e {
				t.Errorf("R6: %v: %d, and then %d", n, e, again)
			}
		}
	}
}
