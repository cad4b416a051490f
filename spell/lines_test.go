package spell

import (
	"reflect"
	"strings"
	"testing"

	"mandrel/api"
	"mandrel/begin"
)

func TestOp(t *testing.T) {
	got := Op("Gather; axis=1", 2)
	want := api.Node{Op: "Gather", In: []string{"x", "x"}, Out: "z", Attrs: []api.Attr{{Name: "axis", Kind: api.AttrInt, I: 1}}}
	if !reflect.DeepEqual(got, want) {
		t.Errorf("read as %v, not %v", got, want)
	}
}

func TestTensors(t *testing.T) {
	want := []api.Tensor{{Type: api.Int64, Dims: []int{2}, Data: []int64{1, -2}}, {Type: api.Bool, Data: []int64{1}}}
	if got := Tensors("l 2: 1 -2, b: 1"); !reflect.DeepEqual(got, want) {
		t.Errorf("read as %v, not %v", got, want)
	}
	if got := Tensors(" "); len(got) != 0 {
		t.Errorf("of nothing: %v", got)
	}
}

// A layer that is wrong in one thing is told of.
func TestUnlike(t *testing.T) {
	well := api.Tensor{Type: api.Int32, Dims: []int{2}, Data: []int64{4, 5}}
	for _, c := range []struct {
		out  api.Tensor
		e    api.Errno
		want string
		same bool
	}{
		{well, api.OK, "i 2: 4 5", true},
		{well, api.OK, "l 2: 4 5", false},
		{well, api.OK, "i 1 2: 4 5", false},
		{well, api.OK, "i 2: 4 6", false},
		{well, api.OK, "i 2: 4", false},
		{well, api.OK, "graph", false},
		{well, api.ErrGraph, "i 2: 4 5", false},
		{well, api.ErrGraph, "graph", false},
		{well, api.OK, "", false},
		{api.Tensor{}, api.OK, "", false},
		{api.Tensor{}, api.ErrGraph, "graph", true},
		{api.Tensor{}, api.ErrIndex, "index", true},
		{api.Tensor{}, api.ErrIndex, "divide", false},
		{api.Tensor{Type: 1}, api.ErrArg, "arg", false},
	} {
		do := func(n api.Node, in []api.Tensor) (api.Tensor, api.Errno) {
			if n.Op != "Add" || len(in) != 2 || len(n.In) != 2 {
				t.Errorf("done of %v, %v", n, in)
			}
			return c.out, c.e
		}
		if got := Unlike(do, "\nAdd | i: 1, i: 2 | "+c.want+"\n"); len(got) == 0 != c.same {
			t.Errorf("%v, %d against %q: %q", c.out, c.e, c.want, got)
		}
	}
}

// Each operator's node begins well, so that a layer refuses it for its operator alone.
func TestOthers(t *testing.T) {
	lines := pieces(Others(""), "\n")
	ops := map[string]int{}
	for _, line := range lines {
		part := strings.Split(line, "|")
		in := Tensors(part[1])
		n := Op(part[0], len(in))
		ops[n.Op]++
		if _, e := begin.Node(n, in); e != api.OK || strings.TrimSpace(part[2]) != "unsupported" {
			t.Errorf("%s: begins with %d", line, e)
		}
	}
	if len(ops) != 48 {
		t.Errorf("%d operators", len(ops))
	}
	others := Others("Add Concat Cast")
	if got, want := len(pieces(others, "\n")), len(lines)-4; got != want {
		t.Errorf("without four lines: %d, not %d", got, want)
	}
	for _, op := range []string{"Add", "Concat", "Cast"} {
		if strings.Contains(others, op) {
			t.Errorf("%s is among the others", op)
		}
	}
}
