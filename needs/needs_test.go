package needs

import (
	"math/rand"
	"reflect"
	"slices"
	"strings"
	"testing"

	"mandrel/api"
	"mandrel/fit"
	"mandrel/sample"
	"mandrel/spell"
)

func TestOf(t *testing.T) {
	g := spell.Graph("in x i 2\ninit w i: 3\nd = Concat(b, x, a, b, w, a); axis=0\nb = Add(a, a)\nc = Constant(); value=i: 1\na = Neg(x)\nout x i 2\nout b i 2\nout w i")
	n, e := Of(g)
	if e != api.OK {
		t.Fatalf("%d", e)
	}
	var names []string
	for _, node := range n.List {
		names = append(names, node.Out)
	}
	if got := strings.Join(names, " "); got != "c a b d" {
		t.Errorf("nodes: %s", got)
	}
	if want := [][]int{nil, nil, {1}, {2, 1}}; !reflect.DeepEqual(n.Reads, want) {
		t.Errorf("they read: %v, not %v", n.Reads, want)
	}
	if want := [][]int{nil, {2, 3}, {3}, nil}; !reflect.DeepEqual(n.Readers, want) {
		t.Errorf("they are read: %v, not %v", n.Readers, want)
	}
	if want := []bool{false, false, true, false}; !slices.Equal(n.IsOut, want) {
		t.Errorf("outputs: %t", n.IsOut)
	}
	for text, want := range map[string]api.Errno{"": api.ErrGraph, "in x 3\nout x 3": api.ErrUnsupported, "in x i 65537\nout x i": api.ErrLimit} {
		if n, e := Of(spell.Graph(text)); e != want || !reflect.DeepEqual(n, Nodes{}) {
			t.Errorf("%s: %v, %d", text, n, e)
		}
	}
}

// inPlace are whose place each node may take, such as `b<a`.
func inPlace(g api.Graph) string {
	n, _ := Of(g)
	before := fit.Before(g)
	var words []string
	for i := range n.List {
		if old, ok := n.InPlace(before, i); ok {
			words = append(words, n.List[i].Out+"<"+n.List[old].Out)
		} else if old != 0 {
			words = append(words, "not nought")
		}
	}
	return strings.Join(words, " ")
}

func TestInPlace(t *testing.T) {
	for _, c := range []struct{ nodes, want string }{
		{"", ""},
		{"a = Neg(x)", ""},
		{"a = Neg(w)", ""},
		{"a = Neg(x)\nb = Neg(a)\nc = Abs(b); then=Neg", "b<a c<b"},
		{"c = Abs(b)\nb = Neg(a)\na = Neg(x)", "b<a c<b"},
		{"a = Add(x, x)\nb = Identity(a)", "b<a"},
		{"a = Reshape(x); shape=1 2\nb = Squeeze(a); axes=0\nc = Unsqueeze(b); axes=0\nd = Flatten(c)", "b<a c<b d<c"},
		{"a = Reshape(x); shape=2\nb = Reshape(a); shape=2 1; then=Neg", "b<a"},
		// Operators that do not go in place, though they could.
		{"a = Neg(x)\nb = Add(a, a)\nc = Cast(b); to=6\nd = Transpose(c)\ne = Expand(d); shape=2\nf = Slice(e); starts=0; ends=2\ng = Concat(f); axis=0", ""},
		// An output.
		{"a = Neg(x)\nb = Neg(a)\nc = Neg(b)\nout a i 2", "c<b"},
		{"a = Neg(x)\nb = Neg(a)\nout b i 2", "b<a"},
		// Other readers: before it, behind it, neither.
		{"a = Neg(x)\nb = Add(a, a)\nc = Neg(a)", ""},
		{"a = Neg(x)\nb = Neg(a)\nc = Neg(a)", ""},
		{"a = Neg(x)\nb = Neg(a)\nc = Add(a, b)\nd = Neg(c)", "d<c"},
		{"a = Add(x, x)\nb = Neg(a)\nc = Add(b, x)\nd = Add(a, a)", ""},
	} {
		if got := inPlace(spell.Graph("in x i 2\ninit w i 2: 1 2\nout x i 2\n" + c.nodes)); got != c.want {
			t.Errorf("%s: %q, not %q", c.nodes, got, c.want)
		}
	}
}

// Whoever goes in place makes a pair that fits, where nothing else meets; and whoever does not makes none.
func TestInPlaceAgainstTheWords(t *testing.T) {
	r := rand.New(rand.NewSource(1))
	met := map[string]int{}
	for range 3000 {
		g := sample.Graph(r.Intn, r.Intn(10), "Neg Not Abs Add Reshape Flatten Squeeze Unsqueeze Cast Transpose Concat")
		n, _ := Of(g)
		before := fit.Before(g)
		spread := fit.Wide(g)
		for i := range n.List {
			old, ok := n.InPlace(before, i)
			fits := -1
			for k := range n.List {
				l := api.Layout{Size: spread.Size, Places: slices.Clone(spread.Places)}
				l.Places[i].At = l.Places[k].At
				l.Pairs = []api.Pair{{New: n.List[i].Out, Old: n.List[k].Out}}
				if len(fit.Broken(g, l)) == 0 {
					fits = k
				}
			}
			if ok != (fits >= 0) || ok && old != fits {
				t.Fatalf("%v: node %d in place of %d, %t, not %d", g, i, old, ok, fits)
			}
			met[map[bool]string{false: "not", true: "in place"}[ok]]++
		}
	}
	if met["in place"] < 1000 || met["not"] < 1000 {
		t.Errorf("met: %v", met)
	}
}
