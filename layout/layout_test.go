package layout

import (
	"math/rand"
	"strconv"
	"strings"
	"testing"

	"mandrel/api"
	"mandrel/kept"
	"mandrel/sem"
	"mandrel/spell"
)

func expect(t *testing.T, changes []kept.Change) {
	t.Helper()
	r := rand.New(rand.NewSource(17))
	for _, m := range kept.Misses(Plain, r.Intn, changes) {
		t.Errorf("P17.1, P17.2: %+v", m)
	}
}

// same are graphs of which nothing changes.
func same(both string, l ...string) []kept.Change {
	var changes []kept.Change
	for _, text := range l {
		changes = append(changes, kept.Change{both, text, text})
	}
	return changes
}

// node is the text of a node that is given as `Reshape; shape=2 3`.
func node(out, text, in string) string {
	op, attrs, _ := strings.Cut(text, ";")
	return out + " = " + op + "(" + in + ");" + attrs + "\n"
}

const ends = "in x f 2 3\nout z f 2 3"

func TestExample(t *testing.T) {
	expect(t, []kept.Change{
		{ends, "a = Transpose(x)\nb = Transpose(a)\nz = Neg(b)", "a = Transpose(x)\nz = Neg(x)"},
		{ends, "a = Transpose(x)\nz = Transpose(a)", "a = Transpose(x)\nz = Transpose(x); perm=0 1"},
	})
}

// doNothing are nodes that do nothing with a value of 2 3.
func doNothing() []string {
	return []string{
		"Identity", "Transpose; perm=0 1",
		"Reshape; shape=2 3", "Reshape; shape=0 -1", "Reshape; shape=0 0", "Reshape; shape=-1 3",
		"Squeeze; axes=", "Unsqueeze; axes=", "Flatten", "Flatten; axis=1", "Flatten; axis=-1",
		"Expand; shape=2 3", "Expand; shape=1 1", "Expand; shape=1 3", "Expand; shape=2 1", "Expand; shape=3", "Expand; shape=1", "Expand; shape=",
	}
}

func TestNothing(t *testing.T) {
	for _, text := range doNothing() {
		a := node("a", text, "x")
		expect(t, []kept.Change{
			// Read by one, by several, twice by one, by nobody.
			{ends, a + "z = Neg(a)", "z = Neg(x)"},
			{ends, a + "z = Neg(a); then=Abs", "z = Neg(x); then=Abs"},
			{ends, a + "b = Neg(a)\nc = Abs(a)\nd = Add(a, c)\nz = Add(d, b)", "b = Neg(x)\nc = Abs(x)\nd = Add(x, c)\nz = Add(d, b)"},
			{ends, a + "z = Mul(a, a)", "z = Mul(x, x)"},
			{ends, a + "b = Equal(x, a)\nz = Where(b, a, x)", "b = Equal(x, x)\nz = Where(b, x, x)"},
			{ends, a + "z = Neg(x)", "z = Neg(x)"},
			// The input is an initializer, the value of a node, or of another one that does nothing.
			{"out z f 2 3\ninit x f 2 3: 1 2 3 4 5 6", a + "z = Neg(a)", "z = Neg(x)"},
			{ends, "y = Abs(x)\n" + node("a", text, "y") + "z = Neg(a)", "y = Abs(x)\nz = Neg(y)"},
			{ends, a + node("b", text, "a") + node("c", text, "b") + "z = Neg(c)", "z = Neg(x)"},
			{ends, a + "b = Identity(a)\nz = Add(a, b)", "z = Add(x, x)"},
			// Others read an input of the same node.
			{ends, a + "b = Neg(x)\nz = Add(b, a)", "b = Neg(x)\nz = Add(b, x)"},
			// Its readers stand ahead of it.
			{ends, "z = Add(b, a)\nb = Neg(a)\n" + a, "b = Neg(x)\nz = Add(b, x)"},
			// Its value is an output; its reader's is one.
			{ends + "\nout a f 2 3", a + "z = Neg(a)", a + "z = Neg(a)"},
			{"in x f 2 3\nout a f 2 3", a, a},
			{"in x f 2 3\nout a f 2 3", node("b", text, "x") + node("a", "Identity", "b"), "a = Identity(x)"},
			{"in x f 2 3\nout x f 2 3", a, ""},
		})
		// Something follows in it, if only an Identity.
		for _, then := range []string{"; then=Neg", "; then=Identity", "; then=Neg,Neg"} {
			l := node("a", text+then, "x")
			expect(t, same(ends, l+"z = Neg(a)", l+"z = Neg(x)", l+"z = Mul(a, a)"))
			expect(t, same(ends+"\nout a f 2 3", l+"z = Neg(a)"))
		}
	}
}

// Types and dims of all kinds.
func TestNothingOfOtherValues(t *testing.T) {
	for _, c := range []struct{ value, text string }{
		{"b 2", "Identity"}, {"i", "Identity"}, {"l 2 1", "Identity"},
		{"b 2", "Reshape; shape=-1"}, {"i", "Reshape; shape="}, {"i", "Squeeze; axes="}, {"l", "Unsqueeze; axes="}, {"b", "Expand; shape="},
		{"i 2 3 1", "Transpose; perm=0 1 2"}, {"l 1 2 1 2 1 2", "Transpose; perm=0 1 2 3 4 5"}, {"f 1 1", "Transpose; perm=0 1"},
		// A turn of rank 0 and of rank 1, with its order and without.
		{"f", "Transpose"}, {"i", "Transpose; perm="}, {"f 3", "Transpose"}, {"b 3", "Transpose; perm=0"}, {"l 1", "Transpose"},
		// What is flattened has two dimensions.
		{"f 1 6", "Flatten; axis=0"}, {"f 1 6", "Flatten"}, {"f 6 1", "Flatten; axis=2"}, {"f 1 1", "Flatten; axis=0"}, {"f 1 6", "Flatten; axis=-2"},
		{"f 1 1", "Expand; shape=1"}, {"f 1", "Expand; shape="}, {"f 3 1 2", "Expand; shape=1 2"},
	} {
		both := "in x " + c.value + "\nout z " + c.value
		expect(t, []kept.Change{
			{both, node("a", c.text, "x") + "z = Identity(a); then=Identity", "z = Identity(x); then=Identity"},
			{both, node("z", c.text, "x"), node("z", c.text, "x")},
		})
	}
}

// Nodes that do something, or are none of the kinds that do nothing.
func TestSomething(t *testing.T) {
	for _, c := range []struct{ value, text string }{
		{"2 3", "Transpose"}, {"2 3", "Transpose; perm=1 0"}, {"2 2", "Transpose"}, {"1 1", "Transpose; perm=1 0"}, {"2 3 4", "Transpose; perm=0 2 1"}, {"2 3 4", "Transpose; perm=1 2 0"}, {"2 2 2", "Transpose"},
		{"2 3", "Reshape; shape=3 2"}, {"2 3", "Reshape; shape=6"}, {"2 3", "Reshape; shape=-1"}, {"2 3", "Reshape; shape=2 3 1"}, {"2 3", "Reshape; shape=1 2 3"}, {"1 1", "Reshape; shape=1"}, {"1", "Reshape; shape="}, {"", "Reshape; shape=1"},
		{"1 3", "Squeeze; axes=0"}, {"1 1", "Squeeze; axes=-1"}, {"1", "Squeeze; axes=0"},
		{"2 3", "Unsqueeze; axes=0"}, {"1 1", "Unsqueeze; axes=-1"}, {"", "Unsqueeze; axes=0"},
		{"2 3", "Flatten; axis=0"}, {"2 3", "Flatten; axis=2"}, {"6", "Flatten"}, {"6", "Flatten; axis=0"}, {"", "Flatten; axis=0"}, {"1 2 3", "Flatten"}, {"1 1 1", "Flatten"},
		{"2 3", "Expand; shape=1 2 3"}, {"2 3", "Expand; shape=2 2 3"}, {"1 3", "Expand; shape=2 1"}, {"1", "Expand; shape=1 1"}, {"", "Expand; shape=1"},
		// What moves nothing, or changes nothing, and still does something.
		{"2 3", "Cast; to=1"}, {"2 3", "Clip"}, {"2 3", "Slice; starts=; ends="}, {"2 3", "Slice; starts=0 0; ends=2 3"}, {"2 3", "Pad; pads=0 0 0 0"}, {"2 3", "Concat; axis=0"}, {"2 3", "ReduceSum; axes="}, {"2 3", "Abs"}, {"2 3", "Neg; then=Neg"},
	} {
		a := node("a", c.text, "x")
		expect(t, same("in x f "+c.value+"\nout x f "+c.value, a+"z = Neg(a)", a+"z = Mul(a, a)", a))
	}
	expect(t, same("in x f 2 3\nin i l\nout x f 2 3", "z = Gather(x, i)", "z = Gather(x, i); axis=1"))
	// Graphs without nodes, without inputs.
	expect(t, same("in x f 2\nout x f 2", "", "init w i: 5"))
	expect(t, same("out w i", "init w i: 5", "init w i: 5\nz = Neg(w)"))
	expect(t, []kept.Change{{"out z f", "c = Constant(); value=f: 5\na = Identity(c)\nz = Neg(a)", "c = Constant(); value=f: 5\nz = Neg(c)"}})
}

func TestTwoTurns(t *testing.T) {
	for _, c := range []struct{ first, second, order, dims string }{
		{"Transpose; perm=1 0 2", "Transpose; perm=0 2 1", "1 2 0", "3 4 2"},
		{"Transpose; perm=0 2 1", "Transpose; perm=1 0 2", "2 0 1", "4 2 3"},
		{"Transpose; perm=1 2 0", "Transpose; perm=1 0 2", "2 1 0", "4 3 2"},
		{"Transpose; perm=1 0 2", "Transpose; perm=1 2 0", "0 2 1", "2 4 3"},
		{"Transpose; perm=1 2 0", "Transpose; perm=1 2 0", "2 0 1", "4 2 3"},
		{"Transpose; perm=2 0 1", "Transpose; perm=2 0 1", "1 2 0", "3 4 2"},
		{"Transpose; perm=1 2 0", "Transpose; perm=2 0 1", "0 1 2", "2 3 4"},
		{"Transpose; perm=1 0 2", "Transpose; perm=1 0 2", "0 1 2", "2 3 4"},
		{"Transpose; perm=1 2 0", "Transpose; perm=0 1 2", "1 2 0", "3 4 2"},
		// Without the attribute, in either of them or in both.
		{"Transpose", "Transpose; perm=1 2 0", "1 0 2", "3 2 4"},
		{"Transpose; perm=1 2 0", "Transpose", "0 2 1", "2 4 3"},
		{"Transpose", "Transpose", "0 1 2", "2 3 4"},
	} {
		both := "in x f 2 3 4\nout z f " + c.dims
		first, second := node("a", c.first, "x"), node("z", c.second, "a")
		joined := "z = Transpose(x); perm=" + c.order
		expect(t, []kept.Change{
			{both, first + second, first + joined},
			{both, second + first, first + joined},
			// The first one is an output, or others read it, or it stands behind others.
			{both + "\nout a f " + dimsOf(first), first + second, first + joined},
			{both, first + second + "b = Neg(a)\nc = Add(a, b)", first + joined + "\nb = Neg(a)\nc = Add(a, b)"},
			{both, "y = Neg(x)\n" + node("a", c.first, "y") + second, "y = Neg(x)\n" + node("a", c.first, "y") + "z = Transpose(y); perm=" + c.order},
			// The second one has a then, ahead of its order or behind it.
			{both, first + node("z", c.second+"; then=Neg,Exp", "a"), first + joined + "; then=Neg,Exp"},
			{both, first + node("z", strings.Replace(c.second, "Transpose", "Transpose; then=Identity", 1), "a"), first + joined + "; then=Identity"},
		})
		// The first one has a then.
		for _, then := range []string{"; then=Neg", "; then=Identity"} {
			l := node("a", c.first+then, "x")
			expect(t, same(both, l+second, l+node("z", c.second+"; then=Abs", "a")))
		}
	}
}

// dimsOf are those of the value that a node makes of one of 2 3 4.
func dimsOf(line string) string {
	switch {
	case strings.Contains(line, "perm=1 0 2"):
		return "3 2 4"
	case strings.Contains(line, "perm=0 2 1"):
		return "2 4 3"
	case strings.Contains(line, "perm=1 2 0"):
		return "3 4 2"
	case strings.Contains(line, "perm=2 0 1"):
		return "4 2 3"
	}
	return "4 3 2"
}

func TestMoreTurns(t *testing.T) {
	const cube = "in x f 2 3 4\nout z f 2 3 4"
	const turn = "Transpose; perm=1 2 0"
	first := node("a", turn, "x")
	expect(t, []kept.Change{
		// Three of them: the second one is of both ahead, and so is the third one.
		{cube, first + node("b", turn, "a") + node("z", turn, "b"), first + "b = Transpose(x); perm=2 0 1\nz = Transpose(x); perm=0 1 2"},
		{cube, first + node("b", turn, "a") + node("c", turn, "b") + "z = Neg(c)", first + "b = Transpose(x); perm=2 0 1\nz = Neg(x)"},
		// The third one reads the input once the second one is gone: its attributes stay.
		{"in x f 2 3\nout z f 3 2", "a = Transpose(x)\nb = Transpose(a)\nz = Transpose(b)", "a = Transpose(x)\nz = Transpose(x)"},
		{"in x f 2 3\nout z f 3 2", "a = Transpose(x)\nb = Transpose(a); perm=1 0\nz = Transpose(b); then=Neg", "a = Transpose(x)\nz = Transpose(x); then=Neg"},
		{ends, "a = Transpose(x)\nb = Transpose(a)\nc = Transpose(b)\nz = Transpose(c)", "a = Transpose(x)\nc = Transpose(x)\nz = Transpose(x); perm=0 1"},
		// A then in the first, in the second, in the third.
		{cube, node("a", turn+"; then=Neg", "x") + node("b", turn, "a") + node("z", turn, "b"), node("a", turn+"; then=Neg", "x") + node("b", turn, "a") + "z = Transpose(a); perm=2 0 1"},
		{cube, first + node("b", turn+"; then=Neg", "a") + node("z", turn, "b"), first + "b = Transpose(x); perm=2 0 1; then=Neg\n" + node("z", turn, "b")},
		{cube, first + node("b", turn, "a") + node("z", turn+"; then=Neg", "b"), first + "b = Transpose(x); perm=2 0 1\nz = Transpose(x); perm=0 1 2; then=Neg"},
		// A turn that comes to nothing goes, but for a then.
		{ends, "a = Transpose(x)\nb = Transpose(a); then=Neg\nz = Neg(b)", "a = Transpose(x)\nb = Transpose(x); perm=0 1; then=Neg\nz = Neg(b)"},
		{ends, "a = Transpose(x); then=Abs\nb = Transpose(a)\nz = Neg(b)", "a = Transpose(x); then=Abs\nb = Transpose(a)\nz = Neg(b)"},
		// Two turns read one.
		{cube, first + node("b", "Transpose; perm=2 0 1", "a") + node("c", "Transpose; perm=2 0 1", "a") + "z = Add(b, c)", first + "z = Add(x, x)"},
		// An initializer, or a Constant, is turned.
		{"out z f 1 2\ninit x f 1 2: 1 2", "a = Transpose(x)\nz = Transpose(a)", "a = Transpose(x)\nz = Transpose(x); perm=0 1"},
		{"out z f 1 2", "c = Constant(); value=f 1 2: 1 2\na = Transpose(c)\nz = Transpose(a)", "c = Constant(); value=f 1 2: 1 2\na = Transpose(c)\nz = Transpose(c); perm=0 1"},
		// Ranks of 0 and 1, where the first one is an output and so stays, or is none and goes.
		{"in x f\nout a f\nout z f", "a = Transpose(x)\nz = Transpose(a)", "a = Transpose(x)\nz = Transpose(x); perm="},
		{"in x f\nout a f\nout z f", "a = Transpose(x); perm=\nz = Transpose(a); then=Neg", "a = Transpose(x); perm=\nz = Transpose(x); perm=; then=Neg"},
		{"in x f\nout z f", "a = Transpose(x)\nz = Transpose(a)", "z = Transpose(x)"},
		{"in x b 2\nout a b 2\nout z b 2", "a = Transpose(x)\nz = Transpose(a)", "a = Transpose(x)\nz = Transpose(x); perm=0"},
		{"in x b 2\nout z b 2", "a = Transpose(x); perm=0\nz = Transpose(a); perm=0", "z = Transpose(x); perm=0"},
		{"in x b 1 2 1 1 1 3\nout z b 1 1 1 2 3 1", "a = Transpose(x); perm=5 0 1 2 3 4\nz = Transpose(a); perm=4 3 5 2 0 1", "a = Transpose(x); perm=5 0 1 2 3 4\nz = Transpose(x); perm=3 2 4 1 5 0"},
	})
}

// Two reshapings of each kind, of one of 1 2 1 6; each is to the dims that stand beside it.
func TestTwoReshapings(t *testing.T) {
	for _, c := range []struct {
		first, ofFirst string
		seconds        [4]string
	}{
		{"Reshape; shape=1 12", "1 12", [4]string{"3 4", "12", "1 1 12", "12 1"}},
		{"Squeeze; axes=2", "1 2 6", [4]string{"3 4", "2 6", "1 1 2 6", "2 6"}},
		{"Unsqueeze; axes=-1", "1 2 1 6 1", [4]string{"3 4", "2 1 6 1", "1 1 2 1 6 1", "2 6"}},
		{"Flatten", "1 12", [4]string{"3 4", "12", "1 1 12", "12 1"}},
	} {
		for i, second := range []string{"Reshape; shape=3 -1", "Squeeze; axes=0", "Unsqueeze; axes=1", "Flatten; axis=2"} {
			both := "in x i 1 2 1 6\nout z i " + c.seconds[i]
			a, z := node("a", c.first, "x"), node("z", second, "a")
			joined := "z = Reshape(x); shape=" + c.seconds[i]
			behind := strings.Replace(second, ";", "; then=Abs,Neg;", 1)
			expect(t, []kept.Change{
				{both, a + z, a + joined},
				{both, z + a, a + joined},
				{both + "\nout a i " + c.ofFirst, a + z, a + joined},
				{both, a + z + "b = Neg(a)\nc = Add(a, b)", a + joined + "\nb = Neg(a)\nc = Add(a, b)"},
				{both, "y = Neg(x)\n" + node("a", c.first, "y") + z, "y = Neg(x)\n" + node("a", c.first, "y") + "z = Reshape(y); shape=" + c.seconds[i]},
				// A then in the second one, ahead of its attribute or behind it.
				{both, a + node("z", second+"; then=Neg", "a"), a + joined + "; then=Neg"},
				{both, a + node("z", behind, "a"), a + joined + "; then=Abs,Neg"},
				// As no output, of which there is one more behind.
				{both, a + node("b", second, "a") + "z = Neg(b)", a + "b = Reshape(x); shape=" + c.seconds[i] + "\nz = Neg(b)"},
			})
			// A then in the first one, and in both.
			for _, then := range []string{"; then=Neg", "; then=Identity"} {
				l := node("a", c.first+then, "x")
				expect(t, same(both, l+z, l+node("z", behind, "a")))
			}
		}
	}
}

func TestMoreReshapings(t *testing.T) {
	expect(t, []kept.Change{
		// Three of them; with a then in the first, in the second, in the third.
		{"in x f 2 6\nout z f 12", "a = Reshape(x); shape=3 4\nb = Reshape(a); shape=4 3\nz = Reshape(b); shape=-1", "a = Reshape(x); shape=3 4\nb = Reshape(x); shape=4 3\nz = Reshape(x); shape=12"},
		{"in x f 2 6\nout z f 12", "a = Reshape(x); shape=3 4; then=Neg\nb = Unsqueeze(a); axes=0\nz = Reshape(b); shape=-1", "a = Reshape(x); shape=3 4; then=Neg\nb = Unsqueeze(a); axes=0\nz = Reshape(a); shape=12"},
		{"in x f 2 6\nout z f 12", "a = Reshape(x); shape=3 4\nb = Unsqueeze(a); axes=0; then=Neg\nz = Reshape(b); shape=-1", "a = Reshape(x); shape=3 4\nb = Reshape(x); shape=1 3 4; then=Neg\nz = Reshape(b); shape=-1"},
		{"in x f 2 6\nout z f 12", "a = Reshape(x); shape=3 4\nb = Unsqueeze(a); axes=0\nz = Reshape(b); then=Neg; shape=-1", "a = Reshape(x); shape=3 4\nb = Reshape(x); shape=1 3 4\nz = Reshape(x); shape=12; then=Neg"},
		// What stands for a dimension of the first one's value is that dimension.
		{"in x f 2 6\nout z f 3 2 2", "a = Reshape(x); shape=3 4\nz = Reshape(a); shape=0 -1 2", "a = Reshape(x); shape=3 4\nz = Reshape(x); shape=3 2 2"},
		// To no dims, and from none.
		{"in x f 1 1\nout z f", "a = Squeeze(x); axes=0\nz = Squeeze(a); axes=0", "a = Squeeze(x); axes=0\nz = Reshape(x); shape="},
		{"in x f 1 1\nout z f", "a = Flatten(x); axis=0; then=Neg\nb = Reshape(a); shape=1\nz = Squeeze(b); axes=0; then=Exp", "a = Flatten(x); axis=0; then=Neg\nb = Reshape(a); shape=1\nz = Reshape(a); shape=; then=Exp"},
		{"in x f 1\nout z f 1 1", "a = Reshape(x); shape=\nz = Unsqueeze(a); axes=0 1", "a = Reshape(x); shape=\nz = Reshape(x); shape=1 1"},
		{"in x f\nout z f", "a = Unsqueeze(x); axes=0\nz = Squeeze(a); axes=0", "a = Unsqueeze(x); axes=0\nz = Reshape(x); shape="},
		{"in x f\nout z f", "a = Unsqueeze(x); axes=0\nb = Squeeze(a); axes=0\nz = Neg(b)", "a = Unsqueeze(x); axes=0\nz = Neg(x)"},
		{"in x f\nout z f 1 1", "a = Flatten(x); axis=0\nz = Flatten(a)", "a = Flatten(x); axis=0\nz = Reshape(x); shape=1 1"},
		// As great as may be.
		{"in x f 65536\nout z f 256 256", "a = Reshape(x); shape=1 65536\nz = Reshape(a); shape=256 -1", "a = Reshape(x); shape=1 65536\nz = Reshape(x); shape=256 256"},
	})
	// A turn of a reshaping, a reshaping of a turn, and such of an Expand, or of an Identity in which something follows.
	expect(t, same("in x f 2 6\nout x f 2 6",
		"a = Reshape(x); shape=3 4\nb = Transpose(a)\nc = Reshape(b); shape=6 2\nd = Transpose(c)",
		"a = Expand(x); shape=2 2 6\nb = Flatten(a)\nc = Expand(b); shape=3 2 12\nd = Expand(c); shape=2 3 2 12",
		"a = Reshape(x); shape=12\nb = Identity(a); then=Neg\nc = Reshape(b); shape=2 6\nd = Neg(c)",
		"a = Transpose(x)\nb = Neg(a)\nc = Transpose(b)\nd = Neg(c)",
		"a = Reshape(x); shape=12\nb = Concat(a, a); axis=0\nc = Reshape(b); shape=2 12",
	))
}

// At one node the first rule that applies is taken.
func TestSeveralRules(t *testing.T) {
	expect(t, []kept.Change{
		{"in x f 2 3\nout z f 3 2", "a = Transpose(x)\nb = Transpose(a); perm=0 1\nz = Neg(b)", "a = Transpose(x)\nz = Neg(a)"},
		{"in x f 2 3\nout z f 6", "a = Reshape(x); shape=6\nb = Reshape(a); shape=-1\nz = Neg(b)", "a = Reshape(x); shape=6\nz = Neg(a)"},
		{"in x f 2 3\nout z f 6 1", "a = Reshape(x); shape=6 1\nb = Flatten(a)\nz = Neg(b)", "a = Reshape(x); shape=6 1\nz = Neg(a)"},
		{"in x f 2 3\nout z f 6 1", "a = Flatten(x); axis=2\nb = Squeeze(a); axes=\nc = Unsqueeze(b); axes=\nz = Neg(c)", "a = Flatten(x); axis=2\nz = Neg(a)"},
		// An output does not go, but reads what is further ahead.
		{"in x f 2 3\nout b f 3 2", "a = Transpose(x)\nb = Transpose(a); perm=0 1", "a = Transpose(x)\nb = Transpose(x); perm=1 0"},
		{"in x f 2 3\nout b f 6", "a = Reshape(x); shape=6\nb = Squeeze(a); axes=", "a = Reshape(x); shape=6\nb = Reshape(x); shape=6"},
		{"in x f 2 3\nout b f 6\nout z f 6", "a = Reshape(x); shape=6\nb = Reshape(a); shape=6\nz = Neg(b)", "a = Reshape(x); shape=6\nb = Reshape(x); shape=6\nz = Neg(b)"},
		// The second of two has a then, and so does not go.
		{"in x f 2 3\nout z f 6", "a = Reshape(x); shape=6\nb = Unsqueeze(a); axes=; then=Neg\nz = Neg(b)", "a = Reshape(x); shape=6\nb = Reshape(x); shape=6; then=Neg\nz = Neg(b)"},
		{"in x f 2 3\nout z f 3 2", "a = Transpose(x)\nb = Transpose(a); then=Neg; perm=0 1\nz = Neg(b)", "a = Transpose(x)\nb = Transpose(x); perm=1 0; then=Neg\nz = Neg(b)"},
	})
}

// What one rule makes, another one applies to.
func TestOneRuleAfterAnother(t *testing.T) {
	expect(t, []kept.Change{
		// Back to what it was.
		{ends, "a = Reshape(x); shape=6\nb = Reshape(a); shape=2 3\nz = Neg(b)", "a = Reshape(x); shape=6\nz = Neg(x)"},
		{ends, "a = Unsqueeze(x); axes=1\nb = Squeeze(a); axes=1\nz = Neg(b)", "a = Unsqueeze(x); axes=1\nz = Neg(x)"},
		{ends, "a = Unsqueeze(x); axes=2\nb = Flatten(a)\nz = Neg(b)", "a = Unsqueeze(x); axes=2\nz = Neg(x)"},
		{ends, "a = Reshape(x); shape=3 2\nb = Reshape(a); shape=2 3\nc = Reshape(b); shape=6\nd = Reshape(c); shape=2 3\nz = Mul(b, d)", "a = Reshape(x); shape=3 2\nc = Reshape(x); shape=6\nz = Mul(x, x)"},
		{ends, "a = Transpose(x)\nb = Transpose(a)\nc = Transpose(b)\nd = Transpose(c)\nz = Sub(b, d)", "a = Transpose(x)\nc = Transpose(x)\nz = Sub(x, x)"},
		// What stood between is gone.
		{"in x f 2 3\nout z f 6", "a = Reshape(x); shape=3 2\nb = Identity(a)\nz = Reshape(b); shape=6", "a = Reshape(x); shape=3 2\nz = Reshape(x); shape=6"},
		{"in x f 2 3\nout z f 6", "a = Reshape(x); shape=3 2\nb = Transpose(a); perm=0 1\nc = Expand(b); shape=1\nz = Reshape(c); shape=6", "a = Reshape(x); shape=3 2\nz = Reshape(x); shape=6"},
		{"in x f 2 3\nout z f 6", "a = Reshape(x); shape=3 2\nb = Transpose(a)\nc = Transpose(b)\nz = Reshape(c); shape=6", "a = Reshape(x); shape=3 2\nb = Transpose(a)\nz = Reshape(x); shape=6"},
		{ends, "a = Transpose(x)\nb = Expand(a); shape=2\nz = Transpose(b)", "a = Transpose(x)\nz = Transpose(x); perm=0 1"},
		{ends, "a = Transpose(x)\nb = Reshape(a); shape=6\nc = Reshape(b); shape=3 2\nd = Transpose(c)\nz = Neg(d)", "a = Transpose(x)\nb = Reshape(a); shape=6\nz = Neg(x)"},
		{ends, "a = Reshape(x); shape=6\nb = Identity(a)\nc = Reshape(b); shape=2 3\nd = Identity(c)\nz = Neg(d)", "a = Reshape(x); shape=6\nz = Neg(x)"},
		// The same, with its nodes in another order.
		{ends, "z = Neg(d)\nd = Transpose(c)\nc = Reshape(b); shape=3 2\nb = Reshape(a); shape=6\na = Transpose(x)", "a = Transpose(x)\nb = Reshape(a); shape=6\nz = Neg(x)"},
		{ends, "c = Reshape(b); shape=2 3\nz = Neg(d)\nb = Identity(a)\nd = Identity(c)\na = Reshape(x); shape=6", "a = Reshape(x); shape=6\nz = Neg(x)"},
		{"in x f 2 3\nout z f 3 2\nout v f 2 3", "v = Abs(u)\nc = Transpose(b)\nz = Neg(c)\nb = Transpose(a)\nu = Identity(b)\na = Transpose(x)", "a = Transpose(x)\nc = Transpose(x)\nz = Neg(c)\nv = Abs(x)"},
	})
}

// Names, and what counts for nothing, stay, but in attributes that go.
func TestAllElseStays(t *testing.T) {
	const ends = "in x f 2 3\ninit w f: 1\nout z f 6\nout y f 2 3\n"
	g := spell.Graph(ends + "y = Transpose(v); then=Neg; perm=1 0\nv = Transpose(x)\nz = Reshape(u); shape=-1\nu = Unsqueeze(x); axes=0\ni = Identity(w)\nd = Slice(x); starts=0; ends=1")
	g.Name = "graph"
	for i := range g.Nodes {
		g.Nodes[i].Name = "node " + strconv.Itoa(i)
	}
	g.Nodes[0].Attrs[0].I, g.Nodes[0].Attrs[1].I = 1, 2
	g.Nodes[2].Attrs[0].S = "goes"
	g.Nodes[3].Attrs[0].S = "stays"
	g.Nodes[5].Attrs[1].F = 3
	want := spell.Graph(ends + "v = Transpose(x)\ny = Transpose(x); perm=0 1; then=Neg\nu = Unsqueeze(x); axes=0\nz = Reshape(x); shape=6\nd = Slice(x); starts=0; ends=1")
	want.Name = "graph"
	for i, name := range []string{"node 1", "node 0", "node 3", "node 2", "node 5"} {
		want.Nodes[i].Name = name
	}
	want.Nodes[1].Attrs[1].I = 1
	want.Nodes[2].Attrs[0].S = "stays"
	want.Nodes[4].Attrs[1].F = 3
	if got, e := Plain(g); e != api.OK || !spell.SameGraphs(got, want) {
		t.Errorf("P17.1: %v, %d, not %v", got, e, want)
	}
}

// Of several errors the first one in the order of work stays the first one.
func TestFirstError(t *testing.T) {
	const ends = "in x i 1\ninit w i 1: 5\ninit l i 1: 8\nout z i 1\n"
	for _, c := range []struct{ nodes, ofNought, ofOne string }{
		{"a = Identity(w)\nd = Div(a, x)\ni = Gather(l, a)\nz = Neg(i)", "divide", "index"},
		{"a = Reshape(w); shape=1\ni = Gather(l, a)\nd = Div(a, x)\nz = Neg(i)", "index", "index"},
		// Work on the Gather's index comes ahead of it, and so does the Div; once that work is gone, the Div still does.
		{"i = Gather(l, c)\nd = Div(w, x)\nc = Transpose(b)\nb = Transpose(a)\na = Expand(w); shape=1\nz = Neg(x)", "divide", "index"},
		{"d = Div(w, c)\ni = Gather(l, w)\nc = Squeeze(b); axes=0\nb = Unsqueeze(x); axes=0\nz = Neg(x)", "index", "index"},
		{"d = Div(w, a)\na = Flatten(x); axis=0\nz = Identity(x)", "divide", ""},
	} {
		h, e := Plain(spell.Graph(ends + c.nodes))
		if e != api.OK {
			t.Errorf("P17.1: %s: %d", c.nodes, e)
		}
		for in, want := range map[string]string{"i 1: 0": c.ofNought, "i 1: 1": c.ofOne} {
			if _, e := sem.Eval(h, spell.Tensors(in)); spell.Word(e) != want {
				t.Errorf("P17.2: %s\nof %s: %q, not %q", c.nodes, in, spell.Word(e), want)
			}
		}
	}
}

func TestWrongGraphs(t *testing.T) {
	for _, text := range kept.NotRefused(Plain) {
		t.Errorf("P17.1: Plain does not refuse as infer.All does:\n%s", text)
	}
	// Also where a node that is wrong could go.
	for text, want := range map[string]api.Errno{
		"in x f 2 3\na = Transpose(x); perm=0\nz = Neg(x)\nout z f 2 3":                         api.ErrGraph,
		"in x f 2 3\na = Transpose(x); perm=-2 -1\nz = Neg(x)\nout z f 2 3":                     api.ErrGraph,
		"in x f 2 3\na = Reshape(x); shape=6\nb = Reshape(a); shape=7\nz = Neg(x)\nout z f 2 3": api.ErrGraph,
		"in x f 2 3\na = Identity(x); then=\nz = Neg(a)\nout z f 2 3":                           api.ErrGraph,
		"in x f 2 3\na = Identity(x); axis=0\nz = Neg(a)\nout z f 2 3":                          api.ErrUnsupported,
		"in x f 2 3\na = Identity(x)\nz = Neg(a)\nout z f 3 2":                                  api.ErrGraph,
		"in x f 2 3\na = Unsqueeze(x); axes=0 1 2 3 4\nz = Neg(x)\nout z f 2 3":                 api.ErrLimit,
	} {
		if h, e := Plain(spell.Graph(text)); e != want || !spell.SameGraphs(h, api.Graph{}) {
			t.Errorf("P17.1: %s: %v, %d, not %d", text, h, e, want)
		}
	}
}

// As many nodes as may be, each of the one that stands behind it: of two kinds in turn, of which the first one stays or goes.
func TestGreatGraphs(t *testing.T) {
	for _, c := range []struct {
		odd, even string
		stays     bool
	}{
		{"Identity", "Identity", false},
		{"Squeeze; axes=", "Expand; shape=3", false},
		{"Transpose", "Transpose; perm=1 0", true},
		{"Reshape; shape=3 2", "Reshape; shape=2 3", true},
		{"Unsqueeze; axes=0", "Squeeze; axes=0", true},
	} {
		g, want := spell.Graph("in v0 f 2 3\nout z f 2 3\nz = Neg(v998)"), spell.Graph("in v0 f 2 3\nout z f 2 3")
		for i := 998; i > 0; i-- {
			g.Nodes = append(g.Nodes, spell.Node(node("v"+strconv.Itoa(i), []string{c.even, c.odd}[i%2], "v"+strconv.Itoa(i-1))))
		}
		for i := 1; i < 998 && c.stays; i += 2 {
			want.Nodes = append(want.Nodes, spell.Node(node("v"+strconv.Itoa(i), c.odd, "v0")))
		}
		want.Nodes = append(want.Nodes, spell.Node("z = Neg(v0)"))
		if broken := kept.Broken(Plain, g, spell.Tensors("f 2 3: 1 2 3 4 5 nan")); len(broken) > 0 {
			t.Errorf("P17.2: 998 of %s: %q", c.odd, broken)
		}
		g.Nodes = append(g.Nodes, spell.Node("a = Identity(v0)"))
		if got, e := Plain(g); e != api.OK || !spell.SameGraphs(got, want) {
			t.Errorf("P17.1: 998 of %s: %d nodes, %d", c.odd, len(got.Nodes), e)
		}
		g.Nodes = append(g.Nodes, spell.Node("b = Identity(v0)"))
		if got, e := Plain(g); e != api.ErrLimit || len(got.Nodes) != 0 {
			t.Errorf("P17.1: 1001 nodes: %d nodes, %d", len(got.Nodes), e)
		}
	}
}
