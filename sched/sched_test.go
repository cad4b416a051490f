package sched

import (
	"math"
	"slices"
	"strconv"
	"strings"
	"testing"

	"mandrel/api"
	"mandrel/arena"
	"mandrel/fit"
	"mandrel/infer"
	"mandrel/kept"
	"mandrel/sem"
	"mandrel/spell"
)

// start makes a machine of texts; without a layout's text it is the arena's own.
func start(t *testing.T, graph, layout, in string, size int) *Machine {
	t.Helper()
	g := spell.Graph(graph)
	l, _ := arena.Plan(g)
	if layout != "" {
		l = spell.Layout(layout)
	}
	m, e := New(g, l, spell.Tensors(in), size)
	if e != api.OK || m == nil {
		t.Fatalf("P22.2: %s%v of %s by %d: %d", graph, l, in, size, e)
	}
	return m
}

// step is a step of a text such as `1:0-2`.
func step(text string) api.Step {
	node, rest, _ := strings.Cut(text, ":")
	i := strings.LastIndex(rest, "-")
	var l [3]int
	for k, word := range []string{node, rest[:i], rest[i+1:]} {
		l[k], _ = strconv.Atoi(word)
	}
	return api.Step{Node: l[0], Lo: l[1], Hi: l[2]}
}

func stepsText(l []api.Step) string {
	var words []string
	for _, s := range l {
		words = append(words, strconv.Itoa(s.Node)+":"+strconv.Itoa(s.Lo)+"-"+strconv.Itoa(s.Hi))
	}
	return strings.Join(words, " ")
}

func placesText(l []api.Place) string {
	var words []string
	for _, p := range l {
		words = append(words, p.Name+" "+strconv.Itoa(p.At)+" "+strconv.Itoa(p.Len))
	}
	return strings.Join(words, ", ")
}

// expectRun does steps one after the other, such as `0:0-2 ok`, and looks between them at what may be done, such as `? 0:2-3`, and at what comes out, such as `= arg`; `!` are steps that are refused.
func expectRun(t *testing.T, m *Machine, lines string) {
	t.Helper()
	for _, line := range strings.Split(strings.TrimSpace(lines), "\n") {
		kind, rest, _ := strings.Cut(strings.TrimSpace(line), " ")
		switch kind {
		case "?":
			if got := stepsText(m.Enabled()); got != rest {
				t.Errorf("P22.3: %s may be done, not %s", got, rest)
			}
		case "=":
			got, e := m.Out()
			expectOut(t, got, e, rest)
		case "do":
			for _, word := range strings.Fields(rest) {
				if e := m.Do(step(word)); e != api.OK {
					t.Errorf("P22.3: %s is refused: %d", word, e)
				}
			}
		case "!":
			for _, word := range strings.Fields(rest) {
				if e := m.Do(step(word)); e != api.ErrArg {
					t.Errorf("P22.3: %s is not refused: %d", word, e)
				}
			}
		default:
			t.Fatalf("a line: %s", line)
		}
	}
}

func expectOut(t *testing.T, got []api.Tensor, e api.Errno, want string) {
	t.Helper()
	if e != api.OK {
		if spell.Word(e) != want || len(got) != 0 {
			t.Errorf("P22.5: %v, %s, not %s", got, spell.Word(e), want)
		}
		return
	}
	if !strings.Contains(want, ":") || !slices.EqualFunc(got, spell.Tensors(want), spell.Same) {
		t.Errorf("P22.5: %v, not %s", got, want)
	}
}

func TestExample(t *testing.T) {
	m := start(t, "in x i 3\nz = Neg(y)\ny = Neg(x)\nout z i 3", "", "i 3: 1 2 -3", 2)
	expectRun(t, m, `
		? 0:0-2 0:2-3
		do 0:0-2 0:2-3
		? 1:0-2 1:2-3
		do 1:2-3 1:0-2
		?
		= i 3: 1 2 -3`)
}

// At first, in between and at the end; steps that are done, that may not be done yet, and that are none's.
func TestSteps(t *testing.T) {
	m := start(t, "in x i 3\nz = Add(y, w)\nw = Abs(x)\ny = Neg(x)\nu = Equal(z, y)\nout z i 3\nout u b 3", "", "i 3: 1 2 -3", 2)
	expectRun(t, m, `
		? 0:0-2 0:2-3 1:0-2 1:2-3
		= arg
		! 2:0-2 2:2-3 3:0-2 3:2-3
		! 0:0-3 0:0-1 0:1-2 0:1-3 0:2-4 0:3-4 0:2-2 0:0-0 0:4-6 0:-2-0 0:-1-2 0:-1-1
		! -1:0-2 4:0-2 5:0-2 9:0-0 9223372036854775807:0-2 -9223372036854775808:0-2 0:9223372036854775807-2 0:-9223372036854775808-2
		? 0:0-2 0:2-3 1:0-2 1:2-3
		do 1:2-3
		? 0:0-2 0:2-3 1:0-2
		= arg
		! 1:2-3 2:2-3
		do 0:2-3
		! 2:2-3
		? 0:0-2 1:0-2
		do 0:0-2
		? 1:0-2
		= arg
		! 0:0-2 0:2-3 2:0-2 3:0-2
		do 1:0-2
		? 2:0-2 2:2-3
		! 3:0-2 1:0-2
		do 2:2-3
		? 2:0-2
		! 3:2-3 2:2-3
		do 2:0-2
		? 3:0-2 3:2-3
		= arg
		do 3:0-2
		= arg
		do 3:2-3
		?
		! 3:2-3 0:0-2 2:0-2
		= i 3: 0 0 6, b 3: 0 0 0
		= i 3: 0 0 6, b 3: 0 0 0
		?`)
}

// Sizes that divide the count, do not, are the count or above it.
func TestSizes(t *testing.T) {
	for size, want := range map[int]string{
		1: "0:0-1 0:1-2 0:2-3 0:3-4", 2: "0:0-2 0:2-4", 3: "0:0-3 0:3-4", 4: "0:0-4", 5: "0:0-4", 65536: "0:0-4",
	} {
		m := start(t, "in x i 2 2\ny = Neg(x)\nout y i 2 2", "", "i 2 2: 1 2 3 4", size)
		if got := stepsText(m.Enabled()); got != want {
			t.Errorf("P22.3: by %d: %s", size, got)
		}
		expectRun(t, m, "do "+want+"\n = i 2 2: -1 -2 -3 -4")
	}
}

// Nodes of which each makes another number of elements, of another type.
func TestTypesAndCounts(t *testing.T) {
	m := start(t, "in x b 2 3\na = Cast(x); to=7\nb = ReduceSum(a); axes=1\nc = Cast(b); to=1; then=Neg\nd = Constant(); value=f: 0.5\ne = Less(c, d); then=Not\nout e b 2 1\nout c f 2 1\nout b l 2 1\nout a l 2 3", "", "b 2 3: 1 0 1 0 0 0", 2)
	expectRun(t, m, `
		? 0:0-2 0:2-4 0:4-6 3:0-1
		do 0:4-6 3:0-1 0:0-2
		? 0:2-4
		do 0:2-4
		? 1:0-2
		do 1:0-2 2:0-2
		! 4:0-1
		do 4:0-2
		= b 2 1: 0 0, f 2 1: -2 -0, l 2 1: 2 0, l 2 3: 1 0 1 0 0 0`)
}

// A node that reads a value twice, and one that reads all kinds of values.
func TestInputsOfNodes(t *testing.T) {
	m := start(t, "in x i 2\ninit w i: 10\ny = Neg(x)\nz = Sub(y, y)\nc = Concat(y, x, z, y, v, z); axis=0\nv = Add(w, x)\nout c i 12", "", "i 2: 1 2", 65536)
	expectRun(t, m, `
		? 0:0-2 2:0-2
		do 0:0-2
		? 1:0-2 2:0-2
		do 1:0-2
		? 2:0-2
		! 3:0-12
		do 2:0-2 3:0-12
		= i 12: -1 -2 1 2 0 0 -1 -2 11 12 0 0`)
}

func TestWithoutNodes(t *testing.T) {
	const graph = "in x i 2\nin y b\ninit w f: 5\nout w f\nout y b\nout x i 2"
	for _, layout := range []string{"0 | |", "-8 | |", "-9223372036854775808 | |"} {
		m := start(t, graph, layout, "i 2: 1 2, b: 1", 1)
		expectRun(t, m, `
			?
			! 0:0-1 0:0-2 0:0-0 -1:0-1 1:0-1
			= f: 5, b: 1, i 2: 1 2
			= f: 5, b: 1, i 2: 1 2`)
		if r, w := m.Touches(step("0:0-1")); len(r)+len(w) != 0 {
			t.Errorf("P22.4: %v, %v", r, w)
		}
	}
}

// Outputs that are inputs or initializers stand beside those that nodes make; nobody waits for them.
func TestOutputs(t *testing.T) {
	m := start(t, "in x i 2\ninit w l: 7\nz = Neg(x)\nout x i 2\nout z i 2\nout w l", "", "i 2: 1 2", 1)
	expectRun(t, m, `
		= arg
		do 0:1-2
		= arg
		do 0:0-1
		= i 2: 1 2, i 2: -1 -2, l: 7`)
	// What nobody reads is done all the same.
	m = start(t, "in x i 2\nz = Neg(x)\nout x i 2", "", "i 2: 1 2", 2)
	expectRun(t, m, `
		= arg
		? 0:0-2
		do 0:0-2
		= i 2: 1 2`)
}

func TestErrors(t *testing.T) {
	// A node that errs, with more than one of its steps, with those of it that are left, and with nodes behind it.
	const graph = "in x i 4\nd = Div(x, x)\ne = Neg(d)\nf = Add(e, x)\nn = Neg(x)\nout n i 4\n"
	m := start(t, graph, "", "i 4: 1 0 0 2", 1)
	expectRun(t, m, `
		? 0:0-1 0:1-2 0:2-3 0:3-4 3:0-1 3:1-2 3:2-3 3:3-4
		do 0:3-4
		? 0:0-1 0:1-2 0:2-3 3:0-1 3:1-2 3:2-3 3:3-4
		do 0:1-2
		? 3:0-1 3:1-2 3:2-3 3:3-4
		! 0:0-1 0:1-2 0:2-3 0:3-4 1:0-1 2:0-1
		= arg
		do 3:0-1 3:1-2 3:2-3
		= arg
		do 3:3-4
		= divide
		?
		! 0:0-1 0:2-3 1:0-1 2:0-1
		= divide`)
	// The last step of a node may be the one that errs: then it is not whole.
	m = start(t, graph, "", "i 4: 1 2 3 0", 2)
	expectRun(t, m, `
		do 0:0-2 3:0-2 3:2-4
		? 0:2-4
		do 0:2-4
		?
		! 1:0-2 1:2-4
		= divide`)
	// Without a place that errs all is done.
	m = start(t, graph, "", "i 4: 1 2 3 4", 4)
	expectRun(t, m, `
		do 0:0-4 1:0-4 2:0-4 3:0-4
		= i 4: -1 -2 -3 -4`)
	m = start(t, "in x i 3\ni = Gather(x, x)\nout x i 3", "", "i 3: 0 1 3", 1)
	expectRun(t, m, `
		do 0:0-1
		?
		= index`)
}

// Of several nodes that have erred the least numbered one is told, in whatever order they did.
func TestSeveralErrors(t *testing.T) {
	const graph = "in x i 2\nz = Neg(x)\ni = Gather(x, x)\nd = Div(x, x)\ns = Add(i, d)\nout s i 2\n"
	for lines, want := range map[string]string{
		"do 1:0-1 2:1-2 0:0-1 0:1-2":       "index",
		"do 2:1-2 1:1-2 0:0-1 0:1-2":       "index",
		"do 2:0-1 2:1-2 0:1-2 0:0-1 1:0-1": "index",
		"do 0:0-1 0:1-2 2:0-1 1:1-2":       "arg",
		"do 2:1-2 1:0-1\n? 0:0-1 0:1-2":    "arg",
	} {
		expectRun(t, start(t, graph, "", "i 2: 5 0", 1), lines+"\n= "+want)
	}
	const other = "in x i 2\nz = Neg(x)\nd = Div(x, x)\ni = Gather(x, x)\ns = Add(i, d)\nout s i 2\n"
	for _, lines := range []string{"do 1:1-2 2:1-2", "do 2:0-1 1:1-2", "do 1:0-1 2:1-2 1:1-2"} {
		expectRun(t, start(t, other, "", "i 2: 5 0", 1), lines+"\ndo 0:1-2 0:0-1\n= divide")
	}
}

func TestTouches(t *testing.T) {
	const graph = `
in x i 3
init w i: 1
z = Neg(y)
y = Add(x, x)
u = Abs(y)
c = Concat(z, x, y, z, w2, y); axis=0
w2 = Add(w, x)
f = Reshape(c); shape=3 6; then=Neg
b = Equal(f, c2)
c2 = Cast(f); to=6
n = Not(b)
s = Where(n, f, c2)
k = Constant(); value=l: 5
out s i 3 6`
	const layout = "408 | y 0 12, z 16 12, u 32 12, w2 48 12, c 64 72, f 136 72, c2 208 72, b 280 18, n 304 18, s 328 72, k 400 8 |"
	m := start(t, graph, layout, "i 3: 1 2 3", 4)
	for _, c := range []struct{ step, reads, writes string }{
		// Inputs and initializers do not lie in the arena.
		{"0:0-3", "", "y 0 12"},
		// What goes in place reads no more than it writes, of a pair or not.
		{"1:0-3", "y 0 12", "z 16 12"},
		{"2:0-3", "y 0 12", "u 32 12"},
		{"3:0-3", "", "w2 48 12"},
		// All else reads all of its inputs, in their order, each once.
		{"4:0-4", "z 16 12, y 0 12, w2 48 12", "c 64 16"},
		{"4:4-8", "z 16 12, y 0 12, w2 48 12", "c 80 16"},
		{"4:16-18", "z 16 12, y 0 12, w2 48 12", "c 128 8"},
		{"5:0-4", "c 64 16", "f 136 16"},
		{"5:12-16", "c 112 16", "f 184 16"},
		{"5:16-18", "c 128 8", "f 200 8"},
		// Cast goes element by element, but not in place.
		{"6:4-8", "f 136 72", "c2 224 16"},
		{"7:4-8", "f 136 72, c2 208 72", "b 284 4"},
		{"7:16-18", "f 136 72, c2 208 72", "b 296 2"},
		{"8:4-8", "b 284 4", "n 308 4"},
		{"8:16-18", "b 296 2", "n 320 2"},
		{"9:0-4", "n 304 18, f 136 72, c2 208 72", "s 328 16"},
		{"10:0-1", "", "k 400 8"},
		// There is no such step.
		{"0:0-4", "", ""}, {"0:0-2", "", ""}, {"1:0-4", "", ""}, {"4:1-4", "", ""}, {"4:4-7", "", ""}, {"4:16-20", "", ""}, {"4:18-18", "", ""}, {"4:18-22", "", ""}, {"4:20-24", "", ""}, {"4:0-18", "", ""},
		{"4:-4-0", "", ""}, {"4:-1-3", "", ""}, {"-1:0-3", "", ""}, {"11:0-1", "", ""}, {"9223372036854775807:0-4", "", ""}, {"4:-9223372036854775808-0", "", ""}, {"4:9223372036854775807-0", "", ""},
	} {
		for range 2 {
			r, w := m.Touches(step(c.step))
			if placesText(r) != c.reads || placesText(w) != c.writes {
				t.Errorf("P22.4: %s: %s and %s, not %s and %s", c.step, placesText(r), placesText(w), c.reads, c.writes)
			}
		}
	}
}

// Of a step it is the same, done or not, and whether its node has erred or not; where two are a pair it is one place.
func TestTouchesAtAllTimes(t *testing.T) {
	m := start(t, "in x i 3\nd = Div(x, x)\ne = Neg(d)\nout e i 3", "16 | d 0 12, e 0 12 | e d", "i 3: 1 0 3", 2)
	for _, line := range []string{"?", "do 0:0-2", "?"} {
		if line != "?" {
			expectRun(t, m, line)
		}
		for s, want := range map[string]string{"0:0-2": " | d 0 8", "0:2-3": " | d 8 4", "1:0-2": "d 0 8 | e 0 8", "1:2-3": "d 8 4 | e 8 4"} {
			r, w := m.Touches(step(s))
			if got := placesText(r) + " | " + placesText(w); got != want {
				t.Errorf("P22.4: %s: %s, not %s", s, got, want)
			}
		}
	}
	expectRun(t, m, "?\n= divide")
}

// infer.All's error, whatever else there is.
func TestNewOfGraphsThatMayNotBe(t *testing.T) {
	for _, g := range kept.Wrong() {
		_, want := infer.All(g)
		for _, in := range []string{"", "i: 1", "b: 2"} {
			for _, size := range []int{1, 0} {
				if m, e := New(g, api.Layout{Size: 5}, spell.Tensors(in), size); m != nil || e != want {
					t.Errorf("P22.2: %v: %v, %d, not %d", g, m, e, want)
				}
			}
		}
	}
}

func TestNewOfWrongThings(t *testing.T) {
	g := spell.Graph("in x i 2\nin y f 1\nz = Neg(x)\nout z i 2\nout y f 1")
	well, in := spell.Layout("8 | z 0 8 |"), "i 2: 1 2, f 1: 3"
	refused := func(name string, l api.Layout, in string, size int) {
		t.Helper()
		if m, e := New(g, l, spell.Tensors(in), size); m != nil || e != api.ErrArg {
			t.Errorf("P22.2: %s: %v, %d", name, m, e)
		}
	}
	for _, size := range []int{1, 2, 65536} {
		if m, e := New(g, well, spell.Tensors(in), size); m == nil || e != api.OK {
			t.Errorf("P22.2: by %d: %d", size, e)
		}
	}
	for _, size := range []int{0, -1, 65537, math.MaxInt, math.MinInt} {
		refused("a wrong size", well, in, size)
		refused("a wrong size, and no inputs", well, "", size)
		refused("a wrong size, and no layout", api.Layout{}, in, size)
	}
	for _, l := range []string{"0 | |", "16 | z 0 8 |", "8 | z 8 8 |", "8 | x 0 8 |", "8 | z 0 8 | z z", "8 | z 0 8 | z x", "-8 | z 0 8 |"} {
		refused(l, spell.Layout(l), in, 1)
		refused(l, spell.Layout(l), "", 1)
	}
	for _, in := range []string{
		"", "i 2: 1 2", "i 2: 1 2, f 1: 3, f 1: 3", "f 1: 3, i 2: 1 2", "l 2: 1 2, f 1: 3", "i 2: 1 2, i 1: 3", "3 2: 1 2, f 1: 3",
		"i 2 1: 1 2, f 1: 3", "i 3: 1 2 3, f 1: 3", "i: 1, f 1: 3", "i 2: 1 2, f: 3", "i 2: 1, f 1: 3", "i 2: 1 2 3, f 1: 3", "i 2: 1 2, f 1:", "i 2: 1 2147483648, f 1: 3",
	} {
		refused(in, well, in, 1)
		if _, e := sem.Eval(g, spell.Tensors(in)); e != api.ErrArg {
			t.Errorf("%s: sem.Eval takes it", in)
		}
	}
}

// R1: beside an error there is no machine, and its methods tell so.
func TestNoMachine(t *testing.T) {
	none, _ := New(api.Graph{}, api.Layout{}, nil, 1)
	for _, m := range []*Machine{none, {}} {
		r, w := m.Touches(api.Step{})
		if e := m.Do(api.Step{}); e != api.ErrArg || len(m.Enabled())+len(r)+len(w) != 0 {
			t.Errorf("R1: %d, %v, %v, %v", e, m.Enabled(), r, w)
		}
		if out, _ := m.Out(); len(out) != 0 {
			t.Errorf("R1: %v", out)
		}
	}
	if _, e := none.Out(); e != api.ErrArg {
		t.Errorf("R1: %d", e)
	}
}

// The arena's bytes are nought at first, and what is written stands where the layout says.
func TestArena(t *testing.T) {
	m := start(t, "in x i 3\na = Add(x, x)\nb = Equal(a, x)\nc = Cast(a); to=7\nout b b 3\nout c l 3", "48 | a 24 12, b 40 3, c 0 24 |", "i 3: 1 0 -1", 2)
	expect := func(want string) {
		t.Helper()
		if b := slices.Concat(make([]byte, 0), m.arena); hexOf(b) != strings.Join(strings.Fields(want), "") {
			t.Errorf("P22.3: the arena has %s, not %s", hexOf(b), want)
		}
	}
	zeros := strings.Repeat("00", 24)
	expect(zeros + zeros)
	expectRun(t, m, "do 0:2-3")
	expect(zeros + " 00000000 00000000 feffffff 00000000 0000000000000000")
	expectRun(t, m, "do 0:0-2")
	expect(zeros + " 02000000 00000000 feffffff 00000000 0000000000000000")
	expectRun(t, m, "do 1:0-2")
	expect(zeros + " 02000000 00000000 feffffff 00000000 0001000000000000")
	expectRun(t, m, "do 2:2-3 1:2-3")
	expect("0000000000000000 0000000000000000 feffffffffffffff 02000000 00000000 feffffff 00000000 0001000000000000")
	expectRun(t, m, "do 2:0-2")
	expect("0200000000000000 0000000000000000 feffffffffffffff 02000000 00000000 feffffff 00000000 0001000000000000")
}

func hexOf(b []byte) string {
	text := ""
	for _, x := range b {
		text += strconv.FormatInt(int64(x>>4), 16) + strconv.FormatInt(int64(x&15), 16)
	}
	return text
}

// As many nodes as may be, with all of them in one place, or each in its own; and as many elements.
func TestGreatMachines(t *testing.T) {
	g := spell.Graph("in v0 i 2\nout v1000 i 2")
	for i := api.MaxNodes; i > 0; i-- {
		g.Nodes = append(g.Nodes, spell.Node("v"+strconv.Itoa(i)+" = "+[]string{"Neg", "Abs"}[i%2]+"(v"+strconv.Itoa(i-1)+")"))
	}
	narrow, _ := arena.Plan(g)
	for _, l := range []api.Layout{narrow, fit.Wide(g)} {
		m, e := New(g, l, spell.Tensors("i 2: 5 -7"), 1)
		if e != api.OK {
			t.Fatalf("P22.2: %d", e)
		}
		many := 0
		for s := m.Enabled(); len(s) > 0; s = m.Enabled() {
			if e := m.Do(s[len(s)-1]); e != api.OK {
				t.Fatalf("P22.3: %d", e)
			}
			many++
		}
		out, e := m.Out()
		if many != 2000 || e != api.OK || !spell.Same(out[0], spell.Tensor("i 2: -5 -7")) {
			t.Errorf("P22.6: %d steps, %v, %d", many, out, e)
		}
	}
	x := api.Tensor{Type: api.Int64, Dims: []int{65536}, Data: make([]int64, 65536)}
	for i := range x.Data {
		x.Data[i] = int64(i) << 40
	}
	h := spell.Graph("in x l 65536\ny = Neg(x)\nz = Abs(y)\nr = Add(z, x)\nout r l 65536")
	l, _ := arena.Plan(h)
	for size, steps := range map[int]int{65536: 3, 65535: 6, 1000: 198} {
		m, _ := New(h, l, []api.Tensor{x}, size)
		many := 0
		for s := m.Enabled(); len(s) > 0; s = m.Enabled() {
			m.Do(s[len(s)/2])
			many++
		}
		out, e := m.Out()
		want, _ := sem.Eval(h, []api.Tensor{x})
		if many != steps || e != api.OK || !spell.Same(out[0], want[0]) {
			t.Errorf("P22.6: by %d: %d steps, %d", size, many, e)
		}
	}
}
