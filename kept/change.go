package kept

import (
	"mandrel/api"
	"mandrel/sample"
	"mandrel/spell"
)

// Change is what a pass makes of a graph: the lines that both graphs have, inputs and outputs mostly, then those of the one ahead, and those of the one behind.
type Change [3]string

// Miss is a change that a pass does not make so, or that breaks something.
type Miss struct {
	Change Change
	Got    api.Graph
	Error  api.Errno
	Broken []string
}

// Misses are such of some changes. Meanings are held against each other of inputs that are picked.
func Misses(pass Pass, pick sample.Pick, changes []Change) []Miss {
	var l []Miss
	for _, c := range changes {
		g := spell.Graph(c[0] + "\n" + c[1])
		want := spell.Graph(c[0] + "\n" + c[2])
		got, e := pass(g)
		broken := Broken(pass, g, sample.Inputs(pick, g), sample.Inputs(pick, g), nil)
		if e != api.OK || len(broken) > 0 || !spell.SameGraphs(got, want) {
			l = append(l, Miss{c, got, e, broken})
		}
	}
	return l
}
