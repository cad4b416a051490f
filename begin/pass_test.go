package begin

import (
	"reflect"
	"testing"

	"mandrel/api"
	"mandrel/infer"
	"mandrel/spell"
)

func TestPass(t *testing.T) {
	const ends = "in x f 2\nin n l\ninit w f: 3\ninit v f: 4\nout z f 2\nout x f 2\nout w f\n"
	for _, c := range []struct{ text, want string }{
		{"", "z = Neg(x)"},
		{"z = Neg(y)\ny = Abs(x)", "y = Abs(x)\nz = Neg(y)"},
		{"z = Add(b, a)\na = Pad(b); pads=0 0; value=2; then=Relu,Neg\nc = Constant(); value=i 2: 1 2\nb = Mul(x, w)", "c = Constant(); value=i 2: 1 2\nb = Mul(x, w)\na = Pad(b); pads=0 0; value=2; then=Relu,Neg\nz = Add(b, a)"},
		{"d = Neg(c)\nz = Neg(a)\na = Neg(x)\nc = Neg(x)", "a = Neg(x)\nz = Neg(a)\nc = Neg(x)\nd = Neg(c)"},
	} {
		if c.text == "" {
			c.text = c.want
		}
		g, want := spell.Graph(ends+c.text), spell.Graph(ends+c.want)
		got, values, e := Pass(g)
		all, _ := infer.All(want)
		if e != api.OK || !spell.SameGraphs(got, want) || !spell.SameValues(values, all) {
			t.Errorf("%s: %v, %v, %d, not %v, %v", c.text, got, values, e, want, all)
		}
	}
}

// What counts for nothing stays too: names, and what an attribute has beside its kind.
func TestPassLeavesAllElse(t *testing.T) {
	g := spell.Graph("in x f 2\nz = Slice(y); starts=0; ends=1; then=Neg\ny = Abs(x)\nout z f 1")
	g.Name, g.Nodes[0].Name, g.Nodes[1].Name = "graph", "first", "last"
	g.Nodes[0].Attrs[1] = api.Attr{Name: "ends", Kind: api.AttrInts, F: 1, I: 2, S: "text", T: spell.Tensor("f 2: 1"), Ints: []int64{1}}
	want := g
	want.Nodes = []api.Node{g.Nodes[1], g.Nodes[0]}
	if got, _, e := Pass(g); e != api.OK || !spell.SameGraphs(got, want) {
		t.Errorf("%v, %d, not %v", got, e, want)
	}
}

func TestPassOfWhatIsWrong(t *testing.T) {
	for text, want := range map[string]api.Errno{
		"":                                    api.ErrGraph,
		"in x f 2\nz = Neg(x)\nout z f 3":     api.ErrGraph,
		"in x f 2\nz = What(x)\nout z f 2":    api.ErrUnsupported,
		"in x f 65537\nz = Neg(x)\nout z f 2": api.ErrLimit,
	} {
		if g, values, e := Pass(spell.Graph(text)); e != want || !reflect.DeepEqual(g, api.Graph{}) || len(values) != 0 {
			t.Errorf("%s: %v, %v, %d, not %d", text, g, values, e, want)
		}
	}
}
