// Package kind tells of which kind an operator is, for all layers that go by the same kinds.
package kind

import (
	"mandrel/api"
	"mandrel/schema"
)

// OfOne tells whether an operator is of one. It leans on then: operators of one may stand there, and no others.
func OfOne(op string) bool {
	l, e := schema.Then(api.Node{Attrs: []api.Attr{{Name: "then", Kind: api.AttrString, S: op}}})
	return e == api.OK && len(l) == 1
}

// Reshaping tells whether an operator leaves all elements in their order, and may give them other dims.
func Reshaping(op string) bool {
	return op == "Reshape" || op == "Squeeze" || op == "Unsqueeze" || op == "Flatten"
}

// InPlace tells whether an operator makes each element of the one that stands at the same number alone, and of the same type: it may be written where that one stood.
func InPlace(op string) bool {
	return OfOne(op) || Reshaping(op)
}

// ByElement tells whether an operator goes element by element: all of its inputs are spread to what comes out.
func ByElement(op string) bool {
	switch op {
	case "Add", "Sub", "Mul", "Div", "Max", "Min", "And", "Or", "Xor", "Equal", "Less", "Greater", "Where", "Clip", "Cast":
		return true
	}
	return OfOne(op)
}
