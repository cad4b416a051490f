package step

import (
	"testing"

	"mandrel/api"
	"mandrel/spell"
)

func TestSteps(t *testing.T) {
	if got := One("Sqrt", api.Float)(spell.Bits("4")); got != spell.Bits("2") {
		t.Errorf("Sqrt of 4: %x", got)
	}
	if got := One("Neg", api.Int64)(1 << 40); got != -1<<40 {
		t.Errorf("Neg of 2^40: %d", got)
	}
	if got := Two("Sub", api.Float)(spell.Bits("1"), spell.Bits("3")); got != spell.Bits("-2") {
		t.Errorf("1 less 3: %x", got)
	}
	if got := Two("Add", api.Int32)(1<<31-1, 1); got != -1<<31 {
		t.Errorf("the greatest Int32 and 1: %d", got)
	}
	if got := Two("Greater", api.Int64)(3, 2); got != 1 {
		t.Errorf("3 Greater 2: %d", got)
	}
}
