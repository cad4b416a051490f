package num

import (
	"slices"
	"testing"

	"mandrel/api"
)

// unaryTypes and binaryTypes are the tables of the document: which operator is for which types.
func unaryTypes() map[string][]int {
	numbers, floats := []int{api.Float, api.Int32, api.Int64}, []int{api.Float}
	return map[string][]int{
		"Identity": types(), "Neg": numbers, "Abs": numbers, "Not": {api.Bool},
		"Relu": floats, "Sqrt": floats, "Floor": floats, "Exp": floats, "Sigmoid": floats, "Tanh": floats,
	}
}

func binaryTypes() map[string][]int {
	numbers, bools := []int{api.Float, api.Int32, api.Int64}, []int{api.Bool}
	return map[string][]int{
		"Add": numbers, "Sub": numbers, "Mul": numbers, "Div": numbers, "Max": numbers, "Min": numbers,
		"And": bools, "Or": bools, "Xor": bools, "Equal": types(), "Less": numbers, "Greater": numbers,
	}
}

// words are all operators, and some that are none.
func words() []string {
	l := []string{"", "add", "ADD", "Add ", "What", "Pow", "Cast", "Where", "Clip", "identity", "\x00", "LessOrEqual"}
	for op := range unaryTypes() {
		l = append(l, op)
	}
	for op := range binaryTypes() {
		l = append(l, op)
	}
	return l
}

func TestOperatorsAndTypes(t *testing.T) {
	for _, op := range words() {
		for _, typ := range append(types(), noTypes()...) {
			z, e := Unary(op, typ, 1)
			if good := slices.Contains(unaryTypes()[op], typ); good != (e == api.OK) || !good && (z != 0 || e != api.ErrArg) {
				t.Errorf("P2.2: %q, type %d: %d, %d", op, typ, z, e)
			}
			z, e = Binary(op, typ, 1, 1)
			if good := slices.Contains(binaryTypes()[op], typ); good != (e == api.OK) || !good && (z != 0 || e != api.ErrArg) {
				t.Errorf("P2.3: %q, type %d: %d, %d", op, typ, z, e)
			}
		}
	}
}

func TestWhatIsNoElement(t *testing.T) {
	for typ, l := range notElements() {
		for _, x := range l {
			for _, op := range words() {
				if z, e := Unary(op, typ, x); z != 0 || e != api.ErrArg {
					t.Errorf("P2.2: %q, type %d, of %x: %x, %d", op, typ, x, z, e)
				}
				for _, p := range [][2]int64{{x, 1}, {1, x}, {x, x}} {
					if z, e := Binary(op, typ, p[0], p[1]); z != 0 || e != api.ErrArg {
						t.Errorf("P2.3: %q, type %d, of %x: %x, %d", op, typ, p, z, e)
					}
				}
			}
			for _, to := range append(types(), noTypes()...) {
				if z, e := Cast(typ, to, x); z != 0 || e != api.ErrArg {
					t.Errorf("P2.4: from %d to %d, of %x: %x, %d", typ, to, x, z, e)
				}
			}
		}
	}
}

func TestCastOfNoType(t *testing.T) {
	for _, no := range noTypes() {
		for _, typ := range append(types(), no) {
			for _, p := range [][2]int{{no, typ}, {typ, no}} {
				if z, e := Cast(p[0], p[1], 1); z != 0 || e != api.ErrArg {
					t.Errorf("P2.4: from %d to %d: %d, %d", p[0], p[1], z, e)
				}
			}
		}
	}
}
