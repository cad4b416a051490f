package arena

import (
	"reflect"
	"strconv"
	"strings"
	"testing"

	"mandrel/api"
	"mandrel/fit"
	"mandrel/infer"
	"mandrel/kept"
	"mandrel/live"
	"mandrel/spell"
)

// planned is the layout of a graph, which must fit it.
func planned(t *testing.T, name string, g api.Graph) api.Layout {
	t.Helper()
	l, e := Plan(g)
	if e != api.OK {
		t.Fatalf("P20.1: %s: %d", name, e)
	}
	if broken := fit.Broken(g, l); len(broken) > 0 {
		t.Errorf("P20.1: %s: %v does not fit: %q", name, l, broken)
	}
	if again, e := Plan(g); e != api.OK || !reflect.DeepEqual(again, l) {
		t.Errorf("R6: %s: %v, and then %v, %d", name, l, again, e)
	}
	return l
}

// pairsOf is whose place values take, such as `c<b`.
func pairsOf(l api.Layout) string {
	var words []string
	for _, p := range l.Pairs {
		words = append(words, p.New+"<"+p.Old)
	}
	return strings.Join(words, " ")
}

// How small a layout is, is the program's own: what is free is used where it can be.
func TestPlan(t *testing.T) {
	for _, c := range []struct {
		name, text string
		size       int
		pairs      string
	}{
		{"no nodes", "in x i 2\nout x i 2", 0, ""},
		{"one node", "in x i 2\na = Neg(x)\nout a i 2", 8, ""},
		{"one node of nothing", "a = Constant(); value=i 2: 1 2\nout a i 2", 8, ""},
		{"the document's example", "in x f 2\na = Neg(x)\nb = Add(a, a)\nc = Neg(b)\nout c f 2", 16, "c<b"},
		{"the same, the last one first", "in x f 2\nc = Neg(b)\nb = Add(a, a)\na = Neg(x)\nout c f 2", 16, "c<b"},
		{"an output stays", "in x f 2\na = Neg(x)\nb = Add(a, a)\nc = Neg(b)\nout c f 2\nout b f 2", 16, ""},
		{"all are outputs", "in x f 2\na = Neg(x)\nb = Neg(a)\nc = Neg(b)\nout c f 2\nout b f 2\nout a f 2", 24, ""},
		{"a chain in place", "in x f 2\na = Neg(x)\nb = Abs(a)\nc = Exp(b); then=Neg\nout c f 2", 8, "b<a c<b"},
		{"moves in place", "in x b 5 1\na = Reshape(x); shape=1 5\nb = Unsqueeze(a); axes=0\nc = Squeeze(b); axes=1\nd = Flatten(c); axis=0\nout d b 1 5", 8, "b<a c<b d<c"},
		{"an input and an initializer do not lie there", "in x i 2\ninit w i 2: 1 2\na = Neg(x)\nb = Neg(w)\nout a i 2\nout b i 2", 16, ""},
		{"another node reads it later", "in x i 2\na = Neg(x)\nb = Neg(a)\nc = Add(b, a)\nout c i 2", 24, ""},
		{"another node reads it at any time", "in x i 2\na = Neg(x)\nb = Neg(a)\nc = Sub(a, a)\nout b i 2\nout c i 2", 24, ""},
		{"two that could go in place of one", "in x i 2\na = Neg(x)\nb = Neg(a)\nc = Abs(a)\nout b i 2\nout c i 2", 24, ""},
		{"nobody reads it", "in x i 2\na = Neg(x)\nb = Neg(x)\nout x i 2", 16, ""},
		{"another type", "in x i 2\na = Neg(x)\nb = Cast(a); to=1\nout b f 2", 16, ""},
		{"another type and length", "in x l 2\na = Neg(x)\nb = Cast(a); to=9\nout b b 2", 24, ""},
		{"another length", "in x i 2\na = Neg(x)\nb = Expand(a); shape=2 2\nout b i 2 2", 24, ""},
		{"a move that does not go in place", "in x i 2 2\na = Neg(x)\nb = Transpose(a)\nout b i 2 2", 32, ""},
		{"one that could go in place of two", "in x i 2\na = Neg(x)\nb = Neg(x)\nc = Add(a, b)\nd = Neg(c)\nout d i 2", 24, "d<c"},
		{"what is free is taken", "in x i 2\na = Add(x, x)\nb = Add(a, a)\nc = Add(b, b)\nd = Add(c, c)\ne = Add(d, d)\nout e i 2", 16, ""},
		{"lengths that are no multiples of 8", "in x b 3\na = And(x, x)\nb = And(a, a)\nc = And(b, b)\nout c b 3", 16, ""},
		{"of all types", "in x b 3\na = Not(x)\nb = Cast(a); to=6\nc = Cast(b); to=7\nd = Cast(c); to=1\ne = Cast(d); to=9\nout e b 3", 48, ""},
		{"the least gap that has room", "in x i 2\na = Concat(x, x, x); axis=0\nk = Add(x, x)\nb = Add(x, x)\nl = Add(x, x)\ns = Concat(a, b); axis=0\nt = Slice(s); starts=0; ends=2\nu = Slice(s); starts=0; ends=6\nout k i 2\nout l i 2\nout t i 2\nout u i 6", 80, ""},
		{"the least gap that has room is at the end", "in x i 2\na = Concat(x, x, x); axis=0\nk = Add(x, x)\nb = Slice(a); starts=0; ends=4\nc = Concat(b, x); axis=0\nd = Slice(c); starts=0; ends=2\nf = Add(d, d)\ne = Concat(d, d, d); axis=0\nout k i 2\nout f i 2\nout e i 6", 48, ""},
		{"a gap at the end that has room", "in x i 2\na = Add(x, x)\nb = Concat(x, x); axis=0\nc = Slice(b); starts=0; ends=1\nd = Add(c, c)\ne = Concat(d, d, d); axis=0\nout a i 2\nout e i 3", 32, ""},
	} {
		g := spell.Graph(c.text)
		l := planned(t, c.name, g)
		if l.Size != c.size || pairsOf(l) != c.pairs || len(l.Places) != len(g.Nodes) {
			t.Errorf("%s: %v, not of the size %d, with %q", c.name, l, c.size, c.pairs)
		}
	}
}

// big are so many nodes of 65536 numbers of eight bytes, then lines of others.
func big(nodes int, lines ...string) api.Graph {
	g := spell.Graph("in x l 65536\nin y b 65529\nin n b\nout x l 65536\n" + strings.Join(lines, "\n"))
	for i := range nodes {
		g.Nodes = append(g.Nodes, spell.Node("x"+strconv.Itoa(i)+" = Neg(x)"))
	}
	return g
}

// bools are so many lines of nodes whose values take 65529 bytes: 65536, rounded up.
func bools(many int) []string {
	var l []string
	for i := range many {
		l = append(l, "y"+strconv.Itoa(i)+" = Not(y)")
	}
	return l
}

func TestLimit(t *testing.T) {
	for _, c := range []struct {
		name string
		g    api.Graph
		size int
	}{
		{"as many as there is room for", big(128), api.MaxArena},
		{"as many, rounded up", big(127, bools(8)...), api.MaxArena},
		{"one less, and one byte", big(127, "b = Not(n)"), api.MaxArena - 524288 + 8},
		{"one byte more", big(128, "b = Not(n)"), -1},
		{"one byte more behind those that are rounded up", big(127, append(bools(8), "b = Not(n)")...), -1},
		{"one of them more", big(129), -1},
		{"as many nodes as may be", big(1000), -1},
	} {
		l, e := Plan(c.g)
		if c.size < 0 && (e != api.ErrLimit || !reflect.DeepEqual(l, api.Layout{})) {
			t.Errorf("P20.1: %s: of the size %d, %d", c.name, l.Size, e)
		}
		if c.size >= 0 && (e != api.OK || l.Size != c.size || len(fit.Broken(c.g, l)) > 0) {
			t.Errorf("P20.1: %s: of the size %d, %d", c.name, l.Size, e)
		}
	}
}

// All Lens count, though values that lie in one another's place would have room.
func TestLimitOfAllTogether(t *testing.T) {
	g := spell.Graph("in v0 l 65536\nout v128 l 65536")
	for i := range 128 {
		g.Nodes = append(g.Nodes, spell.Node("v"+strconv.Itoa(i+1)+" = Neg(v"+strconv.Itoa(i)+")"))
	}
	if l := planned(t, "a chain", g); l.Size != 524288 || len(l.Pairs) != 127 {
		t.Errorf("P20.1: a chain of 128: %d, %d pairs", l.Size, len(l.Pairs))
	}
	g.Nodes = append(g.Nodes, spell.Node("more = Neg(v128)"))
	if l, e := Plan(g); e != api.ErrLimit || !reflect.DeepEqual(l, api.Layout{}) {
		t.Errorf("P20.1: a chain of 129: %d, %d", l.Size, e)
	}
}

func TestGraphsThatAreRefused(t *testing.T) {
	met := map[api.Errno]int{}
	for _, g := range kept.Wrong() {
		_, want := infer.All(g)
		met[want]++
		if l, e := Plan(g); e != want || !reflect.DeepEqual(l, api.Layout{}) {
			t.Errorf("P20.1: %v: %v, %d, not %d", g, l, e, want)
		}
	}
	if met[api.ErrGraph] < 8 || met[api.ErrUnsupported] < 4 || met[api.ErrLimit] < 4 || len(met) != 3 {
		t.Errorf("errors: %v", met)
	}
	// R2: what infer.All refuses comes ahead of what has no room.
	for _, line := range []string{"z = And(x, x)", "z = Cast(x); to=3", "z = What(x)", "z = Neg(z)"} {
		g := big(129, line)
		_, want := infer.All(g)
		if _, e := Plan(g); e != want || e == api.ErrLimit || e == api.OK {
			t.Errorf("P20.1: %s in a graph that is too great: %d", line, e)
		}
	}
}

// great are as many nodes as may be, of which each reads one or two of the last ones ahead of it.
func great(line func(i int) string) api.Graph {
	g := spell.Graph("in v0 i 2\nin v1 i 2\nout v1001 i 2")
	for i := api.MaxNodes + 1; i > 1; i-- {
		g.Nodes = append(g.Nodes, spell.Node("v"+strconv.Itoa(i)+" = "+line(i)))
	}
	return g
}

func ahead(i, by int) string { return "v" + strconv.Itoa(i-by) }

func TestGreatGraphs(t *testing.T) {
	for _, c := range []struct {
		name string
		line func(i int) string
		size int
	}{
		{"a chain in place", func(i int) string { return "Neg(" + ahead(i, 1) + ")" }, 8},
		{"a chain", func(i int) string { return "Add(" + ahead(i, 1) + ", " + ahead(i, 1) + ")" }, 16},
		{"each of the last two", func(i int) string { return "Add(" + ahead(i, 1) + ", " + ahead(i, 2) + ")" }, 24},
		{"all of one", func(int) string { return "Neg(v0)" }, 8000},
	} {
		g := great(c.line)
		l, e := Plan(g)
		if e != api.OK || l.Size != c.size || len(l.Places) != api.MaxNodes {
			t.Fatalf("P20.1: %s: %d places of the size %d, %d", c.name, len(l.Places), l.Size, e)
		}
		expectFar(t, c.name, g, l)
	}
}

// expectFar is what fit.Broken would take long for, with so many nodes: those that meet are apart, or a pair.
func expectFar(t *testing.T, name string, g api.Graph, l api.Layout) {
	t.Helper()
	pairs := map[api.Pair]int{}
	for _, p := range l.Pairs {
		pairs[p]++
	}
	asked := 0
	for a, p := range l.Places {
		for b := max(0, a-3); b < a; b++ {
			q := l.Places[b]
			if p.At >= q.At+q.Len || q.At >= p.At+p.Len || pairs[api.Pair{New: p.Name, Old: q.Name}] == 1 {
				continue
			}
			// Each of these questions goes along the whole graph.
			if asked++; asked > 100 {
				return
			}
			if is, _ := live.Apart(g, a, b); !is {
				t.Fatalf("P20.1: %s: %v and %v meet", name, p, q)
			}
		}
	}
}
