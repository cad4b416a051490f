package kind

import (
	"slices"
	"strings"
	"testing"

	"mandrel/sample"
)

func TestKinds(t *testing.T) {
	ofOne := strings.Fields("Identity Neg Abs Not Relu Sqrt Floor Exp Sigmoid Tanh")
	reshaping := strings.Fields("Reshape Squeeze Unsqueeze Flatten")
	byElement := strings.Fields("Add Sub Mul Div Max Min And Or Xor Equal Less Greater Where Clip Cast")
	others := []string{"", "What", "neg", "Neg ", "Neg,Abs", ",", "Neg,", "reshape", "Reshape,Squeeze"}
	for _, op := range append(strings.Fields(sample.All), others...) {
		if got := OfOne(op); got != slices.Contains(ofOne, op) {
			t.Errorf("%q is of one: %t", op, got)
		}
		if got := Reshaping(op); got != slices.Contains(reshaping, op) {
			t.Errorf("%q reshapes: %t", op, got)
		}
		if got := InPlace(op); got != slices.Contains(slices.Concat(ofOne, reshaping), op) {
			t.Errorf("%q goes in place: %t", op, got)
		}
		if got := ByElement(op); got != slices.Contains(slices.Concat(ofOne, byElement), op) {
			t.Errorf("%q goes element by element: %t", op, got)
		}
	}
}
