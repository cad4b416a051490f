package infer

import (
	"math/rand"
	"reflect"
	"strconv"
	"strings"
	"testing"

	"mandrel/api"
	"mandrel/spell"
)

func expectAll(t *testing.T, text string, want []api.Value, e api.Errno) {
	t.Helper()
	l, got := All(spell.Graph(text))
	if got != e || len(l) != len(want) {
		t.Errorf("P8.2: %s: %v, %d, not %v, %d", text, l, got, want, e)
		return
	}
	for i, v := range l {
		if v.Name != want[i].Name || v.Type != want[i].Type || len(v.Dims)+len(want[i].Dims) > 0 && !reflect.DeepEqual(v.Dims, want[i].Dims) {
			t.Errorf("P8.2: %s: value %d is %v, not %v", text, i, v, want[i])
		}
	}
}

func TestAllValues(t *testing.T) {
	for _, c := range []struct{ text, want string }{
		{"in x f 2\nout x f 2", "x f 2"},
		{"init w b: 1\nout w b", "w b"},
		{"in x f 2\ny = Neg(x)\nout y f 2", "x f 2, y f 2"},
		{"c = Constant(); value=l 1 2: 3 4\nout c l 1 2", "c l 1 2"},
		// Inputs, then initializers, then nodes in the order of work.
		{"init w f 3: 1 2 3\nz = Less(y, w)\nin x f 2 1\nu = Cast(z); to=6\ny = Exp(x)\nin v l\nout z b 2 3\nout v l", "x f 2 1, v l, w f 3, y f 2 1, z b 2 3, u i 2 3"},
		{"in x f 2 3\nd = MatMul(b, c)\nc = Transpose(b)\nb = Relu(x); then=Neg\nout d f 2 2\nout c f 3 2\nout x f 2 3", "x f 2 3, b f 2 3, c f 3 2, d f 2 2"},
		{"in x f 2\nz = Add(x, x)\nout z f 2", "x f 2, z f 2"},
	} {
		var want []api.Value
		for _, part := range strings.Split(c.want, ", ") {
			want = append(want, spell.Value(part))
		}
		expectAll(t, c.text, want, api.OK)
	}
}

func TestAllOfWhatIsWrong(t *testing.T) {
	for _, c := range []struct {
		text string
		e    api.Errno
	}{
		{"", api.ErrGraph},
		{"in x f 2\nz = What(x)\nout z f", api.ErrUnsupported},
		{"in x f 65537\nout x f 65537", api.ErrLimit},
		{"in x f 2\nz = Neg(z)\nout z f 2", api.ErrGraph},
		{"in x b 2\nz = Neg(x)\nout z b 2", api.ErrGraph},
		{"in x b 2\nz = Cast(x); to=2\nout z b 2", api.ErrUnsupported},
		{"in x b 2\nz = Neg(x)\nout x b 2", api.ErrGraph},
		// Outputs.
		{"in x f 2\nout x i 2", api.ErrGraph},
		{"in x f 2\nout x 0 2", api.ErrGraph},
		{"in x f 2\nout x f 3", api.ErrGraph},
		{"in x f 2\nout x f", api.ErrGraph},
		{"in x f\nout x f 1", api.ErrGraph},
		{"in x f 2\nout x f 2 1", api.ErrGraph},
		{"in x f 2 3\nout x f 2 -3", api.ErrGraph},
		{"in x f 2 3\nz = Neg(x)\nout x f 2 3\nout z f 3 2", api.ErrGraph},
		{"init w f 2: 1 2\nout w f 1", api.ErrGraph},
		{"in x f 2\nz = Less(x, x)\nout z f 2", api.ErrGraph},
		// R2: the graph's error, then that of the first node in the order of work, then the outputs'.
		{"in x f 2\nin y l 2\na = Add(b, x)\nb = Not(y)\nc = Cast(x); to=2\nout x f 3\nout w f", api.ErrGraph},
		{"in x f 2\nin y l 2\nc = Cast(x); to=2\nb = Not(y)\nout x f 3", api.ErrUnsupported},
		{"in x f 2\nin y l 2\nb = Not(y)\nc = Cast(x); to=2\nout x f 3", api.ErrGraph},
		{"in x f 2\na = Not(b)\nb = Neg(x)\nc = Cast(x); to=2\nout x f 3", api.ErrGraph},
		{"in x f 2\na = Not(c)\nb = Cast(x); to=2\nc = Neg(x)\nout x f 3", api.ErrUnsupported},
		{"in x f 2\na = Reshape(c); shape=1 1 1 1 1 1 2\nb = Not(c)\nc = Neg(x)\nout x f 3", api.ErrLimit},
		{"in x f 2\nb = Not(c)\na = Reshape(c); shape=1 1 1 1 1 1 2\nc = Neg(x)\nout x f 3", api.ErrGraph},
		{"in x f 2\nb = Cast(x); to=2\nc = Neg(c)\nout x f 2", api.ErrGraph},
		{"in x f 65537\nb = Cast(x); to=2\nout x f 2", api.ErrLimit},
	} {
		expectAll(t, c.text, nil, c.e)
	}
}

// renamed gives each value another name; who reads it reads it by that name.
func renamed(g api.Graph, r *rand.Rand) api.Graph {
	names := map[string]string{}
	other := func(name string) string {
		if names[name] == "" {
			names[name] = "n" + strconv.Itoa(r.Int())
		}
		return names[name]
	}
	var c api.Graph
	for _, v := range g.In {
		c.In = append(c.In, api.Value{Name: other(v.Name), Type: v.Type, Dims: v.Dims})
	}
	for _, w := range g.Inits {
		c.Inits = append(c.Inits, api.Named{Name: other(w.Name), T: w.T})
	}
	for _, n := range g.Nodes {
		m := api.Node{Op: n.Op, Name: "named", Out: other(n.Out), Attrs: n.Attrs}
		for _, name := range n.In {
			m.In = append(m.In, other(name))
		}
		c.Nodes = append(c.Nodes, m)
	}
	for _, v := range g.Out {
		c.Out = append(c.Out, api.Value{Name: other(v.Name), Type: v.Type, Dims: v.Dims})
	}
	return c
}

func TestNamesCountForNothing(t *testing.T) {
	g := spell.Graph("in x f 2 1\nin v l\ninit w f 3: 1 2 3\nz = Less(y, w)\nu = Cast(z); to=6\ny = Exp(x)\nout z b 2 3\nout v l")
	want, e := All(g)
	if e != api.OK || len(want) != 6 {
		t.Fatalf("P8.2: %v, %d", want, e)
	}
	r := rand.New(rand.NewSource(3))
	for range 100 {
		l, e := All(renamed(g, r))
		if e != api.OK || len(l) != len(want) {
			t.Fatalf("P8.3: with other names: %v, %d", l, e)
		}
		for i := range l {
			l[i].Name = want[i].Name
		}
		if !reflect.DeepEqual(l, want) {
			t.Errorf("P8.3: with other names: %v, not %v", l, want)
		}
	}
	for _, name := range []string{"", "x", "z", "what"} {
		n := spell.Node("z = Add(a, b)")
		n.Name = name
		v, e := Out(n, []api.Value{{Name: name, Type: api.Int32, Dims: []int{2, 1}}, {Name: name, Type: api.Int32, Dims: []int{3}}})
		if want := (api.Value{Name: "z", Type: api.Int32, Dims: []int{2, 3}}); !reflect.DeepEqual(v, want) || e != api.OK {
			t.Errorf("P8.3: inputs named %q: %v, %d", name, v, e)
		}
	}
}

// A chain of as many nodes as may be, the other way round.
func TestAllOfManyNodes(t *testing.T) {
	g := spell.Graph("in v0 f 2 3\nout v" + strconv.Itoa(api.MaxNodes) + " f 2 3")
	for i := api.MaxNodes; i > 0; i-- {
		g.Nodes = append(g.Nodes, spell.Node("v"+strconv.Itoa(i)+" = Transpose(v"+strconv.Itoa(i-1)+")"))
	}
	l, e := All(g)
	if e != api.OK || len(l) != api.MaxNodes+1 {
		t.Fatalf("P8.2: %d values, %d", len(l), e)
	}
	for i, v := range l {
		want := []int{2 + i%2, 3 - i%2}
		if v.Name != "v"+strconv.Itoa(i) || v.Type != api.Float || !reflect.DeepEqual(v.Dims, want) {
			t.Errorf("P8.2: value %d is %v", i, v)
		}
	}
	g.Nodes = append(g.Nodes, spell.Node("more = Neg(v0)"))
	if l, e := All(g); e != api.ErrLimit || len(l) != 0 {
		t.Errorf("P8.2: of one node more: %d values, %d", len(l), e)
	}
}
