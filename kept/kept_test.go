package kept

import (
	"slices"
	"strings"
	"testing"

	"mandrel/api"
	"mandrel/infer"
	"mandrel/spell"
)

// to is a pass that makes one graph of all, or has an error.
func to(text string, e api.Errno) Pass {
	return func(api.Graph) (api.Graph, api.Errno) { return spell.Graph(text), e }
}

// A pass that breaks one thing is told of, by that thing's word.
func TestBroken(t *testing.T) {
	const ends = "in x i\ninit o i: 0\ninit w i 1: 5\nout z i\n"
	g := spell.Graph(ends + "z = Neg(y)\ny = Abs(x)")
	for text, want := range map[string]string{
		"y = Abs(x)\nz = Neg(y)":                         "",
		"z = Abs(x); then=Neg":                           "",
		"y = Abs(x)\nz = Sub(o, y)":                      "",
		"z = Neg(y)\ny = Abs(x)":                         "order",
		"z = Abs(x)":                                     "meaning",
		"z = Neg(x)":                                     "meaning",
		"y = Abs(x)\nz = Neg(y)\nd = Div(x, o)":          "meaning",
		"y = Abs(x)\nz = Neg(y)\nd = Gather(w, x)":       "meaning",
		"y = Abs(x)\nz = Neg(y)\nd = Neg(v)":             "graph",
		"y = Abs(x)\nz = Neg(y)\nv = Cast(x); to=3":      "graph",
		"y = Abs(x)\nz = Neg(y)\nin v f":                 "ends meaning",
		"y = Abs(x)\nz = Neg(y)\nout y i":                "ends meaning",
		"init v i: 7\ny = Abs(x)\nz = Neg(y)":            "",
		"z = Abs(y)\ny = Neg(x)\nv = Add(y, z)\nout v i": "ends order meaning",
	} {
		got := Broken(to(ends+text, api.OK), g, spell.Tensors("i: -3"), spell.Tensors("i: 4"), spell.Tensors("i: 0"))
		if strings.Join(got, " ") != want {
			t.Errorf("%s: %q, not %q", text, got, want)
		}
		lost := Lost(to(ends+text, api.OK), g, spell.Tensors("i: -3"), spell.Tensors("i: 4"), spell.Tensors("i: 0"))
		if strings.Join(lost, " ") != want {
			t.Errorf("%s: %q is lost, not %q", text, lost, want)
		}
	}
	if got := Broken(to("", api.ErrGraph), g); !slices.Equal(got, []string{"error"}) {
		t.Errorf("an error: %q", got)
	}
	named := func(g api.Graph) (api.Graph, api.Errno) {
		h := spell.Graph(ends + "z = Abs(x); then=Neg")
		h.Name = "other"
		return h, api.OK
	}
	if got := Broken(named, g); !slices.Equal(got, []string{"ends"}) {
		t.Errorf("another name: %q", got)
	}
}

// Twice is once: a pass that goes on, or errs then.
func TestTwice(t *testing.T) {
	g := spell.Graph("in x i\nout z i\na = Neg(x)\nb = Neg(x)\nz = Neg(x)")
	shorter := func(g api.Graph) (api.Graph, api.Errno) {
		if len(g.Nodes) > 1 {
			g.Nodes = g.Nodes[1:]
		}
		return g, api.OK
	}
	if got := Broken(shorter, g, spell.Tensors("i: 1")); !slices.Equal(got, []string{"twice"}) {
		t.Errorf("one node less each time: %q", got)
	}
	once := func(g api.Graph) (api.Graph, api.Errno) {
		if len(g.Nodes) < 3 {
			return api.Graph{}, api.ErrGraph
		}
		return shorter(g)
	}
	if got := Broken(once, g); !slices.Equal(got, []string{"twice"}) {
		t.Errorf("an error the second time: %q", got)
	}
	for _, pass := range []Pass{shorter, once} {
		if got := Lost(pass, g, spell.Tensors("i: 1")); len(got) != 0 {
			t.Errorf("nothing is lost the first time: %q", got)
		}
	}
}

// Which error a run has counts, and whether it has one.
func TestErrors(t *testing.T) {
	const ends = "in x i\ninit w i 1: 5\ninit o i: 1\nout x i\n"
	g := spell.Graph(ends + "i = Gather(w, o)\nd = Div(x, x)")
	for text, want := range map[string]string{
		"i = Gather(w, o)\nd = Div(x, x)": "",
		"i = Gather(w, o)":                "",
		"d = Div(x, x)\ni = Gather(w, o)": "meaning",
		"d = Div(x, x)":                   "meaning",
		"d = Div(x, o)":                   "meaning",
	} {
		got := Broken(to(ends+text, api.OK), g, spell.Tensors("i: 0"), spell.Tensors("i: 1"), nil, spell.Tensors("f: 1"))
		if strings.Join(got, " ") != want {
			t.Errorf("%s: %q, not %q", text, got, want)
		}
	}
}

func TestInOrder(t *testing.T) {
	const ends = "in x i\ninit w i: 1\nout z i\n"
	g := spell.Graph(ends + "z = Neg(y)\nc = Neg(w)\ny = Abs(x)")
	want := spell.Graph(ends + "c = Neg(w)\ny = Abs(x)\nz = Neg(y)")
	if got := InOrder(g); !spell.SameGraphs(got, want) || g.Nodes[0].Out != "z" {
		t.Errorf("%v, not %v, of %v", got, want, g)
	}
}

// All graphs that are wrong are so, and each of infer.All's errors is there.
func TestWrongGraphs(t *testing.T) {
	errors := map[api.Errno]int{}
	for _, g := range Wrong() {
		_, e := infer.All(g)
		errors[e]++
	}
	if errors[api.ErrGraph] < 10 || errors[api.ErrUnsupported] < 5 || errors[api.ErrLimit] < 4 || len(errors) != 3 {
		t.Errorf("errors: %v", errors)
	}
}

func TestNotRefused(t *testing.T) {
	all := len(wrongGraphs())
	well := func(g api.Graph) (api.Graph, api.Errno) {
		_, e := infer.All(g)
		return api.Graph{}, e
	}
	beside := func(g api.Graph) (api.Graph, api.Errno) {
		_, e := infer.All(g)
		return api.Graph{Name: "beside"}, e
	}
	if got := NotRefused(well); len(got) != 0 {
		t.Errorf("a pass that refuses them all: %q", got)
	}
	if got := NotRefused(beside); len(got) != all {
		t.Errorf("a pass that answers a graph beside the error: %q", got)
	}
	if got := NotRefused(to("", api.OK)); len(got) != all {
		t.Errorf("a pass that takes all: %q", got)
	}
	if got := NotRefused(to("", api.ErrLimit)); len(got) == 0 || len(got) == all {
		t.Errorf("a pass with one error for all: %q", got)
	}
}

func TestMisses(t *testing.T) {
	const both = "in x i\nout z i"
	pass := to("in x i\nout z i\nz = Neg(x)", api.OK)
	pick := func(n int) int { return n - 1 }
	for _, c := range []struct {
		ahead, behind string
		broken        int
		missed        bool
	}{
		{"z = Neg(x)", "z = Neg(x)", 0, false},
		{"z = Sub(o, x)\ninit o i: 0", "z = Neg(x)", 0, false},
		{"z = Neg(x)", "z = Neg(x); then=Identity", 0, true},
		{"z = Identity(x)", "z = Neg(x)", 1, true},
	} {
		got := Misses(pass, pick, []Change{{both, c.ahead, c.behind}})
		if len(got) > 0 != c.missed || c.missed && (len(got[0].Broken) != c.broken || got[0].Change[1] != c.ahead || len(got[0].Got.Nodes) != 1 || got[0].Error != api.OK) {
			t.Errorf("%s to %s: %v", c.ahead, c.behind, got)
		}
	}
	got := Misses(to("", api.ErrLimit), pick, []Change{{both, "z = Neg(x)", "z = Neg(x)"}})
	if len(got) != 1 || got[0].Error != api.ErrLimit {
		t.Errorf("an error: %v", got)
	}
}
