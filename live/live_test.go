package live

import (
	"math"
	"strconv"
	"strings"
	"testing"

	"mandrel/api"
	"mandrel/graph"
	"mandrel/infer"
	"mandrel/spell"
)

// text is rows such as `011 001 000`.
func text(rows [][]bool) string {
	var words []string
	for _, row := range rows {
		word := ""
		for _, is := range row {
			word += map[bool]string{false: "0", true: "1"}[is]
		}
		words = append(words, word)
	}
	return strings.Join(words, " ")
}

func TestBefore(t *testing.T) {
	for _, c := range []struct{ name, nodes, want string }{
		{"no nodes", "", ""},
		{"one node", "a = Neg(x)", "0"},
		{"one node of nothing", "a = Constant(); value=i 2: 1 2", "0"},
		{"a chain", "a = Neg(x)\nb = Neg(a)\nc = Neg(b)", "011 001 000"},
		{"a chain, the last one first", "c = Neg(b)\nb = Neg(a)\na = Neg(x)", "011 001 000"},
		{"a chain, in any order", "b = Neg(a)\nd = Neg(c)\na = Neg(x)\nc = Neg(b)", "0111 0011 0001 0000"},
		{"several readers", "a = Neg(x)\nb = Neg(a)\nc = Abs(a)\nd = Add(a, x)", "0111 0000 0000 0000"},
		{"read twice by one", "a = Neg(x)\nb = Add(a, a)\nc = Concat(b, b, a, b); axis=0", "011 001 000"},
		{"several ways", "a = Neg(x)\nb = Neg(a)\nc = Neg(a)\nd = Add(b, c)", "0111 0001 0001 0000"},
		{"a long way and a short one", "a = Neg(x)\nb = Neg(a)\nc = Neg(b)\nd = Add(a, c)", "0111 0011 0001 0000"},
		{"nothing of one another", "a = Neg(x)\nb = Neg(x)\nc = Add(x, w)", "000 000 000"},
		{"two chains", "a = Neg(x)\nb = Neg(x)\nc = Neg(a)\nd = Neg(b)", "0010 0001 0000 0000"},
		{"of two", "a = Neg(x)\nb = Neg(w)\nc = Where(d, a, b)\nd = Less(a, b)", "0011 0011 0001 0000"},
		{"a value that is an output and is read", "a = Neg(x)\nb = Neg(a)\nc = Neg(b)\nout b i 2\nout a i 2", "011 001 000"},
		{"what nobody reads", "a = Neg(x)\nb = Neg(a)\nc = Constant(); value=i: 1", "010 000 000"},
	} {
		g := spell.Graph("in x i 2\ninit w i: 3\nout x i 2\n" + c.nodes)
		for range 2 {
			if rows, e := Before(g); e != api.OK || text(rows) != c.want {
				t.Errorf("P19.1: %s: %s, %d, not %s", c.name, text(rows), e, c.want)
			}
		}
	}
}

// apart asks of all nodes, in both orders.
func apart(t *testing.T, g api.Graph) string {
	t.Helper()
	rows := make([][]bool, len(g.Nodes))
	for a := range g.Nodes {
		for b := range g.Nodes {
			is, e := Apart(g, a, b)
			if want := map[bool]api.Errno{false: api.OK, true: api.ErrArg}[a == b]; e != want {
				t.Errorf("P19.2: %d and %d: %d", a, b, e)
			}
			rows[a] = append(rows[a], is)
		}
	}
	return text(rows)
}

func TestApart(t *testing.T) {
	for _, c := range []struct{ name, nodes, want string }{
		{"no nodes", "", ""},
		{"one node", "a = Neg(x)", "0"},
		{"a chain", "a = Neg(x)\nb = Neg(a)\nc = Neg(b)\nd = Neg(c)", "0011 0001 1000 1100"},
		{"a chain, the last one first", "d = Neg(c)\nc = Neg(b)\nb = Neg(a)\na = Neg(x)", "0011 0001 1000 1100"},
		{"the first one is an output", "a = Neg(x)\nb = Neg(a)\nc = Neg(b)\nout a i 2", "000 000 000"},
		{"the middle one is an output", "a = Neg(x)\nb = Neg(a)\nc = Neg(b)\nd = Neg(c)\nout b i 2", "0011 0000 1000 1000"},
		{"the last one is an output", "a = Neg(x)\nb = Neg(a)\nc = Neg(b)\nout c i 2", "001 000 100"},
		{"all are outputs", "a = Neg(x)\nb = Neg(a)\nc = Neg(b)\nout c i 2\nout a i 2\nout b i 2", "000 000 000"},
		{"nobody reads it", "a = Neg(x)\nb = Neg(x)\nc = Neg(x)", "000 000 000"},
		{"nobody reads it, and it is the last", "a = Neg(x)\nb = Neg(a)\nc = Neg(b)\nd = Neg(x)", "0010 0000 1000 0000"},
		{"all readers are before it", "a = Neg(x)\nb = Neg(a)\nc = Abs(a)\nd = Add(b, c)", "0001 0000 0000 1000"},
		{"some readers are before it", "a = Neg(x)\nb = Neg(a)\nc = Abs(a)\nd = Neg(b)", "0000 0000 0000 0000"},
		{"it is a reader itself", "a = Neg(x)\nb = Neg(a)\nc = Add(a, b)\nd = Neg(c)", "0001 0001 0000 1100"},
		{"a reader behind it", "a = Neg(x)\nb = Neg(a)\nc = Neg(b)\nd = Neg(a)", "0000 0000 0000 0000"},
		{"read twice by one", "a = Neg(x)\nb = Add(a, a)\nc = Neg(b)", "001 000 100"},
		{"two chains", "a = Neg(x)\nb = Neg(x)\nc = Neg(a)\nd = Neg(b)\ne = Neg(c)\nf = Neg(d)", "000010 000001 000000 000000 100000 010000"},
	} {
		g := spell.Graph("in x i 2\nout x i 2\n" + c.nodes)
		for range 2 {
			if got := apart(t, g); got != c.want {
				t.Errorf("P19.2: %s: %s, not %s", c.name, got, c.want)
			}
		}
	}
}

func TestApartOfNoNodes(t *testing.T) {
	chain := spell.Graph("in x i\na = Neg(x)\nb = Neg(a)\nc = Neg(b)\nout c i")
	none := spell.Graph("in x i\nout x i")
	for _, c := range []struct {
		g    api.Graph
		a, b int
	}{
		{chain, 0, 0}, {chain, 2, 2}, {chain, -1, 0}, {chain, 0, -1}, {chain, 3, 0}, {chain, 0, 3}, {chain, 3, 3}, {chain, -1, -1}, {chain, -1, 3},
		{chain, math.MaxInt, 0}, {chain, 0, math.MinInt}, {chain, math.MinInt, math.MaxInt}, {none, 0, 0}, {none, 0, 1}, {none, -1, 0},
	} {
		if is, e := Apart(c.g, c.a, c.b); is || e != api.ErrArg {
			t.Errorf("P19.2: %d and %d of %d nodes: %t, %d", c.a, c.b, len(c.g.Nodes), is, e)
		}
	}
}

func TestWidth(t *testing.T) {
	for text, want := range map[string]int{
		"x f": 4, "x i": 4, "x l": 8, "x b": 1,
		"x f 2 3": 24, "x i 2 3": 24, "x l 2 3": 48, "x b 2 3": 6,
		"x f 65536": 262144, "x i 1 65536": 262144, "x l 256 256": 524288, "x b 65536": 65536,
		"x l 1 1 1 1 1 1": 8, "x b 5": 5,
	} {
		if got, e := Width(spell.Value(text)); got != want || e != api.OK {
			t.Errorf("P19.3: %s: %d, %d, not %d", text, got, e, want)
		}
	}
	for text, want := range map[string]api.Errno{
		"x f 0": api.ErrGraph, "x i 2 -1": api.ErrGraph, "x l 65537": api.ErrLimit, "x b 256 257": api.ErrLimit, "x f 1 1 1 1 1 1 1": api.ErrLimit, "x l 65537 0": api.ErrGraph,
		"x b 9223372036854775807 9223372036854775807": api.ErrLimit,
		// R2: the type comes first.
		"x 2": api.ErrUnsupported, "x 0 0": api.ErrUnsupported, "x 3 65537": api.ErrUnsupported, "x -1 -1": api.ErrUnsupported, "x 10 1 1 1 1 1 1 1": api.ErrUnsupported,
	} {
		if got, e := Width(spell.Value(text)); got != 0 || e != want {
			t.Errorf("P19.3: %s: %d, %d, not error %d", text, got, e, want)
		}
	}
	for typ := -300; typ < 300; typ++ {
		is := typ == 1 || typ == 6 || typ == 7 || typ == 9
		if _, e := Width(api.Value{Type: typ}); (e == api.OK) != is || !is && e != api.ErrUnsupported {
			t.Errorf("P19.3: the type %d: %d", typ, e)
		}
	}
}

// refused are graphs that graph.Check refuses, one a line.
const refused = `
in x i
in x i; out y i
in x i; out x i; out x i
in x i; in x i; out x i
in x i; x = Neg(x); out x i
in x i; z = Neg(z); out x i
in x i; z = Neg(y); y = Neg(z); out x i
in x i; z = Neg(y); out x i
in x i; z = Add(x); out z i
in x i; z = Neg(x); z = Neg(x); out z i
in x i; init w i 2: 1; out x i
in x i 0; out x i 0
in x i; z = Cast(x); out z i
in x 2; out x 2
in x i; init w 2: 1; out x i
in x i; z = What(x); out z i
in x i 65537; out x i
in x i 1 1 1 1 1 1 1; out x i
in x i 65537; z = What(x); out z i
in x 2; z = Neg(z); out z i
`

func TestGraphsThatAreNone(t *testing.T) {
	met := map[api.Errno]int{}
	graphs := []api.Graph{{}, spell.Graph("in x i\nout x i\n" + strings.Repeat("z = Neg(z)\n", 1001))}
	for _, line := range strings.Split(strings.TrimSpace(refused), "\n") {
		graphs = append(graphs, spell.Graph(strings.ReplaceAll(line, ";", "\n")))
	}
	for _, g := range graphs {
		want := graph.Check(g)
		met[want]++
		if rows, e := Before(g); e != want || len(rows) != 0 {
			t.Errorf("P19.1: %v: %v, %d, not %d", g, rows, e, want)
		}
		// R2: the graph comes first, whatever the numbers are.
		for _, a := range []int{0, 1, -1, 5000} {
			if is, e := Apart(g, a, 1); e != want || is {
				t.Errorf("P19.2: %v, %d: %t, %d, not %d", g, a, is, e, want)
			}
		}
	}
	if met[api.ErrGraph] < 5 || met[api.ErrUnsupported] < 3 || met[api.ErrLimit] < 4 || len(met) != 3 {
		t.Errorf("errors: %v", met)
	}
}

// What graph.Check takes has its rows, though infer.All may refuse it.
func TestGraphsWithoutTypes(t *testing.T) {
	for _, lines := range []string{
		"in x b 2\na = Neg(x)\nb = Add(a, x)\nc = Neg(b)\nout c i 7",
		"in x i 2\na = Cast(x); to=3\nb = Expand(a); shape=65537\nc = Not(b)\nout c 3 0",
	} {
		g := spell.Graph(lines)
		if _, e := infer.All(g); e == api.OK {
			t.Errorf("%s: infer.All takes it", lines)
		}
		if rows, e := Before(g); e != api.OK || text(rows) != "011 001 000" {
			t.Errorf("P19.1: %s: %s, %d", lines, text(rows), e)
		}
		if got := apart(t, g); got != "001 000 100" {
			t.Errorf("P19.2: %s: %s", lines, got)
		}
	}
}

// great is a graph of as many nodes as may be, each of which reads some of the last ones ahead of it, the last node first.
func great(reads int) api.Graph {
	g := spell.Graph("in n0 i\nout n1000 i")
	for i := api.MaxNodes; i > 0; i-- {
		n := api.Node{Op: "Concat", Out: "n" + strconv.Itoa(i), Attrs: []api.Attr{{Name: "axis", Kind: api.AttrInt}}}
		for k := max(0, i-reads); k < i; k++ {
			n.In = append(n.In, "n"+strconv.Itoa(k))
		}
		g.Nodes = append(g.Nodes, n)
	}
	return g
}

func TestGreatGraphs(t *testing.T) {
	for _, reads := range []int{1, 2, api.MaxIn} {
		g := great(reads)
		rows, e := Before(g)
		if e != api.OK || len(rows) != api.MaxNodes {
			t.Fatalf("P19.1: %d rows, %d", len(rows), e)
		}
		for a, row := range rows {
			for b, is := range row {
				if is != (a < b) {
					t.Fatalf("P19.1: %d before %d: %t", a, b, is)
				}
			}
		}
		for _, c := range []struct {
			a, b int
			want bool
		}{{0, reads, false}, {0, reads + 1, true}, {999, 998 - reads, true}, {999, 999 - reads, false}, {500, 499, false}, {999, 0, true}} {
			if is, e := Apart(g, c.a, c.b); is != c.want || e != api.OK {
				t.Errorf("P19.2: each reads %d: %d and %d: %t, %d", reads, c.a, c.b, is, e)
			}
		}
	}
}

// One value is read by all others.
func TestManyReaders(t *testing.T) {
	g := spell.Graph("in x i\na = Neg(x)\nout x i")
	for i := range api.MaxNodes - 2 {
		g.Nodes = append(g.Nodes, spell.Node("b"+strconv.Itoa(i)+" = Neg(a)"))
	}
	g.Nodes = append(g.Nodes, spell.Node("c = Add(b0, b997)"))
	rows, e := Before(g)
	if e != api.OK || len(rows) != api.MaxNodes {
		t.Fatalf("P19.1: %d rows, %d", len(rows), e)
	}
	for i := range api.MaxNodes {
		if rows[0][i] != (i > 0) || rows[i][999] != (i == 0 || i == 1 || i == 998) {
			t.Errorf("P19.1: 0 before %d: %t; %d before 999: %t", i, rows[0][i], i, rows[i][999])
		}
	}
	if is, e := Apart(g, 0, 999); is || e != api.OK {
		t.Errorf("P19.2: of all readers but two none is before the last node: %t, %d", is, e)
	}
}
