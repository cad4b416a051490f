package load

import (
	"math"
	"slices"
	"strconv"
	"strings"
	"testing"

	"mandrel/api"
	"mandrel/fit"
	"mandrel/infer"
	"mandrel/kept"
	"mandrel/pb"
	"mandrel/spell"
	"mandrel/told"
)

// file is a graph of lines, told plainly. Such as pb.Encode does not tell may be there, too.
func file(lines string) string {
	return told.File(func(n int) int { return n - 1 }, spell.Graph(lines))
}

// isNone tells whether there is nothing in a plan.
func isNone(p api.Plan) bool {
	return spell.SameGraphs(p.Graph, api.Graph{}) && len(p.Order)+len(p.Values)+len(p.Layout.Places)+len(p.Layout.Pairs) == 0 && p.Layout.Size == 0
}

func expectRefused(t *testing.T, s string, mask int, want api.Errno) {
	t.Helper()
	if p, e := Load(s, mask); e != want || !isNone(p) {
		t.Errorf("P23.1: %q with %d: %v, %d, not %d", s, mask, p, e, want)
	}
}

func TestExamples(t *testing.T) {
	for mask := range 16 {
		expectRefused(t, "", mask, api.ErrGraph)
		expectRefused(t, "\x08", mask, api.ErrWire)
		expectRefused(t, file("in x i\nz = What(x)\nout z i"), mask, api.ErrUnsupported)
	}
}

// behind are, by the graph that is in it, the masks of a plan.
type behind map[string][]int

// masksOf are those that have all of some passes, and none of some others.
func masksOf(has, hasNot int) []int {
	var l []int
	for mask := range 16 {
		if mask&has == has && mask&hasNot == 0 {
			l = append(l, mask)
		}
	}
	return l
}

// Of each mask the graph, its order of work, its values; and a layout that fits.
func TestPlans(t *testing.T) {
	const fold, dead, plain, fuse = api.PassFold, api.PassDead, api.PassPlain, api.PassFuse
	for _, c := range []struct {
		ends, nodes string
		want        behind
	}{
		{"in x i 2\nout z i 2\n", "z = Neg(y)\ny = Add(x, x)", behind{
			"y = Add(x, x)\nz = Neg(y)": masksOf(0, fuse),
			"z = Add(x, x); then=Neg":   masksOf(fuse, 0),
		}},
		{"in x f 2 3\nout z f 2 3\n", "z = Transpose(y)\ny = Transpose(x)", behind{
			"y = Transpose(x)\nz = Transpose(y)":           masksOf(0, plain),
			"y = Transpose(x)\nz = Transpose(x); perm=0 1": masksOf(plain, dead),
			"z = Transpose(x); perm=0 1":                   masksOf(plain|dead, 0),
		}},
		{"in x i\nout z i\n", "init w i: 5\nz = Add(v, x)\nv = Neg(w)", behind{
			"init w i: 5\nv = Neg(w)\nz = Add(v, x)":   masksOf(0, fold),
			"init w i: 5\ninit v i: -5\nz = Add(v, x)": masksOf(fold, dead),
			"init v i: -5\nz = Add(v, x)":              masksOf(fold|dead, 0),
		}},
		{"in x i\nin y l 2\ninit w b: 1\nout x i\nout w b\n", "", behind{"": masksOf(0, 0)}},
		{"in x i\nin y l 2\nout y l 2\n", "init w b: 1", behind{"init w b: 1": masksOf(0, dead), "": masksOf(dead, 0)}},
	} {
		for want, masks := range c.want {
			for _, mask := range masks {
				p, e := Load(file(c.ends+c.nodes), mask)
				g := spell.Graph(c.ends + want)
				if e != api.OK || !spell.SameGraphs(p.Graph, g) {
					t.Fatalf("P23.1: %s\nwith %d: %v, %d, not %s", c.nodes, mask, p, e, want)
				}
				if !slices.Equal(p.Order, upTo(len(g.Nodes))) || !spell.SameValues(p.Values, valuesByHand(g)) || len(fit.Broken(g, p.Layout)) > 0 {
					t.Errorf("P23.1: %s\nwith %d: %v", c.nodes, mask, p)
				}
				if e := Check(p); e != api.OK {
					t.Errorf("P23.2: %s\nwith %d: %v: %d", c.nodes, mask, p, e)
				}
			}
		}
	}
}

func upTo(n int) []int {
	var l []int
	for i := range n {
		l = append(l, i)
	}
	return l
}

// valuesByHand are those of a graph all of whose nodes make what its first input is.
func valuesByHand(g api.Graph) []api.Value {
	l := slices.Clone(g.In)
	for _, w := range g.Inits {
		l = append(l, api.Value{Name: w.Name, Type: w.T.Type, Dims: w.T.Dims})
	}
	for _, n := range g.Nodes {
		v := api.Value{Name: n.Out, Type: g.In[0].Type, Dims: g.In[0].Dims}
		if n.Op == "Transpose" && len(n.Attrs) == 0 && n.In[0] == "x" {
			v.Dims = []int{3, 2}
		}
		l = append(l, v)
	}
	return l
}

// Whatever the file: a wrong mask comes first.
func TestMasks(t *testing.T) {
	good := file("in x i\nz = Neg(x)\nout z i")
	files := []string{good, "", "\x08", good[:len(good)-1], file("in x i\nz = What(x)\nout z i"), file("in x i\nout z i"), strings.Repeat("\x00", api.MaxBytes+1)}
	for _, mask := range []int{-1, 16, 17, 31, 32, 255, 256, -15, -16, 1 << 16, 1<<31 - 1, math.MinInt32, math.MaxInt, math.MinInt, math.MinInt + 15} {
		for _, s := range files {
			expectRefused(t, s, mask, api.ErrArg)
		}
	}
	for _, mask := range []int{0, api.PassFold, api.PassDead, api.PassPlain, api.PassFuse, api.PassAll} {
		if p, e := Load(good, mask); e != api.OK || Check(p) != api.OK {
			t.Errorf("P23.1: with %d: %v, %d", mask, p, e)
		}
	}
}

// Each class by which a file is refused, whatever the mask.
func TestClasses(t *testing.T) {
	good := file("in x i\nz = Neg(x)\nout z i")
	for want, files := range map[api.Errno][]string{
		api.ErrWire: {
			"\x08", "\x3a", "\x3a\x01", "\x00", "\xff", "no fields", good[:len(good)-1], good + "\x08", "\x38\x01",
			"\x3a\x09\x0a\x07\x22\x04\x52\x65\x6c\x75\x10\x00", good + "\x3a\x01\x0a",
		},
		api.ErrGraph: {
			"", "\x08\x08", "\x3a\x00", "\x3a\x02\x12\x00",
			file("in x i\nout z i"), file("in x i\nz = Neg(z)\nout z i"), file("in x i\nz = Neg(y)\ny = Neg(z)\nout z i"),
			file("in x i\nin x i\nout x i"), file("in x i\nz = Not(x)\nout z i"), file("in x i\nz = Neg(x)\nout z l"), file("in x i\nz = Neg(x)\nout z i 1"),
			file("in x i 2\nin y i 3\nz = Add(x, y)\nout z i 3"), file("in x i\nz = Neg(x, x)\nout z i"), file("in x i"),
		},
		api.ErrUnsupported: {
			file("in x i\nz = What(x)\nout z i"), file("in x i\nz = Neg(x); axis=1\nout z i"), file("in x i\nz = Cast(x); to=2\nout z i"),
			"\x3a\x02\x5a\x00", "\x3a\x02\x0a\x00",
		},
		api.ErrLimit: {
			file("in x i 65537\nout x i 65537"), file("in x i 1 1 1 1 1 1 1\nout x i 1 1 1 1 1 1 1"), file("in x i\nout x i\nout " + strings.Repeat("y", 101) + " i"),
			file("in x i 65536\nz = Concat(x, x); axis=0\nout x i 65536"),
			file("in x i\nz = Expand(x); shape=65537\nout x i"), file("in x i\nz = Reshape(x); shape=1 1 1 1 1 1 1\nout x i"),
			strings.Repeat("\x3a\x00", api.MaxBytes/2+1), strings.Repeat("\xff", api.MaxBytes+1),
		},
	} {
		for _, s := range files {
			for _, mask := range []int{0, api.PassFold, api.PassDead, api.PassPlain, api.PassFuse, api.PassAll} {
				expectRefused(t, s, mask, want)
			}
		}
	}
}

// A graph that may be told, and is none, is refused as infer.All refuses it.
func TestWrongGraphs(t *testing.T) {
	met := map[api.Errno]int{}
	for _, g := range kept.Wrong() {
		s, e := pb.Encode(g)
		if e != api.OK {
			continue
		}
		_, want := infer.All(g)
		met[want]++
		for mask := range 16 {
			expectRefused(t, s, mask, want)
		}
	}
	if met[api.ErrGraph] < 8 || met[api.ErrUnsupported] < 3 || met[api.ErrLimit] < 2 {
		t.Errorf("met: %v", met)
	}
}

// What is met first counts: what the decoder refuses, whatever the graph is; then what infer.All does, whatever room there is.
func TestFirstError(t *testing.T) {
	for lines, want := range map[string]api.Errno{
		"in x 2\nin x i\nz = What(y)\nout z i":                           api.ErrUnsupported,
		"z = What(x)\nout q i\nin y i 65537":                             api.ErrLimit,
		"z = What(x)\nin y i 65537":                                      api.ErrLimit,
		"in x i\nz = Expand(x); shape=65537\ny = Not(x)\nout x i":        api.ErrLimit,
		"in x i\ny = Not(x)\nz = Expand(x); shape=65537\nout x i":        api.ErrGraph,
		"in x i\ninit w i: 0\nd = Div(w, w)\ng = Gather(w, w)\nout x l":  api.ErrGraph,
		"in x i\ninit w i: 0\nd = Div(w, w)\nc = Cast(d); to=3\nout x i": api.ErrUnsupported,
		wide(1000) + "z = Not(x)\n":                                      api.ErrLimit,
		wide(999) + "z = Not(x)\n":                                       api.ErrGraph,
		wide(999) + "z = What(x)\n":                                      api.ErrUnsupported,
		wide(999) + "z = Neg(x)\n":                                       api.ErrLimit,
	} {
		expectRefused(t, file(lines), 0, want)
		expectRefused(t, file(lines), 16, api.ErrArg)
		expectRefused(t, file(lines)+"\x08", 0, api.ErrWire)
	}
}

// unread has some nodes, each of 524288 bytes, which all read an input.
func unread(nodes int) string {
	text := "in x l 65536\nout x l 65536\n"
	for i := range nodes {
		text += "v" + strconv.Itoa(i) + " = Neg(x)\n"
	}
	return text
}

// wide has such nodes, all of them outputs: none may take another one's room, or go.
func wide(nodes int) string {
	text := unread(nodes)
	for i := range nodes {
		text += "out v" + strconv.Itoa(i) + " l 65536\n"
	}
	return text
}

// line has some nodes of 524288 bytes, each of which could take the place of the one that it reads.
func line(nodes int) string {
	text := "in v0 l 65536\n"
	for i := range nodes {
		text += "v" + strconv.Itoa(i+1) + " = Neg(v" + strconv.Itoa(i) + ")\n"
	}
	return text + "out v" + strconv.Itoa(nodes) + " l 65536\n"
}

// Values have room together, or not, as the passes leave them.
func TestRoom(t *testing.T) {
	const fold, dead, plain, fuse = api.PassFold, api.PassDead, api.PassPlain, api.PassFuse
	for _, c := range []struct {
		text string
		ok   []int // masks of which there is a plan
	}{
		{wide(127), masksOf(0, 0)},
		{wide(128), masksOf(0, 0)},
		{wide(128) + "in b b\nc = Not(b)\nout c b", nil},
		{wide(127) + "in b b 65535\nc = Not(b)\nout c b 65535", masksOf(0, 0)},
		{wide(129), nil},
		{unread(129), masksOf(dead, 0)},
		{line(128), masksOf(0, 0)},
		{line(129), masksOf(fuse, 0)},
		{strings.ReplaceAll(line(129), "Neg", "Identity"), append(masksOf(fuse, 0), masksOf(plain, fuse)...)},
		{"in x l\nout x l\nout v129 l 65536\ninit w l: 5\nv0 = Expand(w); shape=65536\n" + strings.Join(strings.Split(line(129), "\n")[1:130], "\n"), append(masksOf(fold, 0), masksOf(fuse, fold)...)},
	} {
		for mask := range 16 {
			p, e := Load(file(c.text), mask)
			want := api.OK
			if !slices.Contains(c.ok, mask) {
				want = api.ErrLimit
			}
			if e != want || e != api.OK && !isNone(p) || e == api.OK && Check(p) != api.OK {
				t.Errorf("P23.1: %.60q.. with %d: %d nodes, %d, not %d", c.text, mask, len(p.Graph.Nodes), e, want)
			}
		}
	}
}
