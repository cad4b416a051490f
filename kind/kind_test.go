package kind

import (
	"slices"
	"strings"
	"testing"

	"mandrel/sample"
)

func TestKinds(t *testing.T) {
	ofOne := strings.Fields("Identity Neg Abs Not Relu Sqrt Floor Exp Sigmoid Tanh")
	reshaping := strings.Fields("Reshape Squeeze Unsqueeze Flatten")
	others := []string{"", "What", "neg", "Neg ", "Neg,Abs", ",", "Neg,", "reshape", "Reshape,Squeeze"}
	for _, op := range append(strings.Fields(sample.All), others...) {
		if got := OfOne(op); got != slices.Contains(ofOne, op) {
			t.Errorf("%q is of one: %t", op, got)
		}
		if got := Reshaping(op); got != slices.Contains(reshaping, op) {
			t.Errorf("%q reshapes: %t", op, got)
		}
	}
}
