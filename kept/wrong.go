package kept

import (
	"strings"

	"mandrel/api"
	"mandrel/infer"
	"mandrel/spell"
)

// wrong are graphs that infer.All refuses, with a line of dashes between.
const wrong = `
in x i
---
in x i
out y i
---
in x i
in x i
out x i
---
in x i
z = Neg(y)
y = Neg(z)
out x i
---
in x i
z = Neg(y)
out x i
---
in x i
z = Not(x)
out x i
---
in x i
z = Neg(x); then=Not
out z i
---
in x i
z = Neg(x); then=
out z i
---
in x i
z = Neg(x)
out z l
---
in x i
z = Neg(x)
out z i 1
---
in x i
init w i 2: 1
out x i
---
in x i
init w b: 2
out x i
---
in x i
z = What(x)
out z i
---
in x i
z = Neg(x); axis=1
out z i
---
in x 2
out x 2
---
in x i
init w 2: 1
out x i
---
in x i
z = Cast(x); to=3
out x i
---
in x i 65537
out x i 65537
---
in x i
z = Reshape(x); shape=1 1 1 1 1 1 1
out x i
---
in x i
z = Expand(x); shape=65537
out x i
---
in x i
init w i: 0
d = Div(w, w)
z = Not(x)
c = Cast(x); to=3
out x l
---
in x i
c = Cast(x); to=3
z = Not(x)
out x l
---
in x i
z = Not(c)
c = Expand(x); shape=65537
out x l
`

// wrongGraphs has the empty graph, too.
func wrongGraphs() []string {
	return append(strings.Split(wrong, "---"), "")
}

// Wrong are graphs that infer.All refuses, by each of its errors.
func Wrong() []api.Graph {
	var l []api.Graph
	for _, text := range wrongGraphs() {
		l = append(l, spell.Graph(text))
	}
	return l
}

// NotRefused are graphs that infer.All refuses, and that a pass takes, or refuses by another error, or not without answering something beside.
func NotRefused(pass Pass) []string {
	var l []string
	for _, text := range wrongGraphs() {
		g := spell.Graph(text)
		_, want := infer.All(g)
		if h, e := pass(g); e != want || !spell.SameGraphs(h, api.Graph{}) {
			l = append(l, text)
		}
	}
	return l
}
