package num

import (
	"math"
	"testing"

	"mandrel/api"
)

const (
	nan       = api.NaN
	inf       = 0x7f800000
	minusInf  = 0xff800000
	one       = 0x3f800000
	minusOne  = 0xbf800000
	two       = 0x40000000
	half      = 0x3f000000
	minusHalf = 0xbf000000
	minusZero = 0x80000000
	greatest  = 0x7f7fffff // the greatest float
	normal    = 0x00800000 // the least one above 0 that is not subnormal
	tiny      = 0x00000001 // the least one above 0
	minusTiny = 0x80000001
	min32     = math.MinInt32
	max32     = math.MaxInt32
	min64     = math.MinInt64
	max64     = math.MaxInt64
)

func types() []int { return []int{api.Float, api.Int32, api.Int64, api.Bool} }

func noTypes() []int { return []int{0, 2, 3, 4, 5, 8, 10, 11, -1, math.MinInt, math.MaxInt} }

// notElements are, of each type, numbers that are none of its elements.
func notElements() map[int][]int64 {
	return map[int][]int64{
		api.Float: {-1, min64, max64, 1 << 32, 1<<32 + one, nan + 1, nan - 1, inf + 1, minusInf + 1, 0xffc00000, 0xffffffff, 0x7fffffff},
		api.Int32: {min32 - 1, max32 + 1, 1 << 32, min64, max64},
		api.Bool:  {-1, 2, min64, max64},
	}
}

func expectUnary(t *testing.T, op string, typ int, x, want int64) {
	t.Helper()
	if z, e := Unary(op, typ, x); z != want || e != api.OK {
		t.Errorf("P2.2: %s, type %d, of %x: %x, %d, not %x", op, typ, x, z, e, want)
	}
}

func expectBinary(t *testing.T, op string, typ int, x, y, want int64) {
	t.Helper()
	if z, e := Binary(op, typ, x, y); z != want || e != api.OK {
		t.Errorf("P2.3: %s, type %d, of %x, %x: %x, %d, not %x", op, typ, x, y, z, e, want)
	}
}

func expectCast(t *testing.T, from, to int, x, want int64) {
	t.Helper()
	if z, e := Cast(from, to, x); z != want || e != api.OK {
		t.Errorf("P2.4: from %d to %d, of %x: %x, %d, not %x", from, to, x, z, e, want)
	}
}

func TestCheck(t *testing.T) {
	for typ, l := range map[int][]int64{
		api.Float: {0, minusZero, one, minusOne, tiny, minusTiny, greatest, 0xff7fffff, inf, minusInf, nan},
		api.Int32: {0, 1, -1, min32, max32},
		api.Int64: {0, 1, -1, min32 - 1, max32 + 1, min64, max64},
		api.Bool:  {0, 1},
	} {
		for _, x := range l {
			if !Check(typ, x) {
				t.Errorf("P2.1: type %d: %x is an element", typ, x)
			}
			for _, no := range noTypes() {
				if Check(no, x) {
					t.Errorf("P2.1: %d is no type", no)
				}
			}
		}
	}
	for typ, l := range notElements() {
		for _, x := range l {
			if Check(typ, x) {
				t.Errorf("P2.1: type %d: %x is no element", typ, x)
			}
		}
	}
}

func TestUnaryOfFloats(t *testing.T) {
	for op, l := range map[string][][2]int64{
		"Identity": {{one, one}, {minusZero, minusZero}, {nan, nan}},
		"Neg":      {{one, minusOne}, {minusOne, one}, {0, minusZero}, {minusZero, 0}, {inf, minusInf}, {minusInf, inf}, {nan, nan}, {tiny, minusTiny}},
		"Abs":      {{one, one}, {minusOne, one}, {0, 0}, {minusZero, 0}, {inf, inf}, {minusInf, inf}, {nan, nan}, {minusTiny, tiny}},
		"Relu":     {{one, one}, {minusOne, 0}, {0, 0}, {minusZero, 0}, {inf, inf}, {minusInf, 0}, {nan, nan}, {tiny, tiny}, {minusTiny, 0}},
		"Sqrt":     {{one, one}, {two, 0x3fb504f3}, {0x40800000, two}, {0, 0}, {minusZero, minusZero}, {minusOne, nan}, {minusTiny, nan}, {inf, inf}, {minusInf, nan}, {nan, nan}, {tiny, 0x1a3504f3}, {greatest, 0x5f7fffff}},
		"Floor":    {{one, one}, {half, 0}, {minusHalf, minusOne}, {0xc0200000, 0xc0400000}, {0, 0}, {minusZero, minusZero}, {inf, inf}, {minusInf, minusInf}, {nan, nan}, {tiny, 0}, {minusTiny, minusOne}, {greatest, greatest}, {0x4affffff, 0x4afffffe}, {0xcaffffff, 0xcb000000}},
		"Exp":      {{0, one}, {minusZero, one}, {one, 0x402df854}, {inf, inf}, {minusInf, 0}, {nan, nan}, {tiny, one}, {0x42b20000, inf}, {0x42b20001, inf}, {0xc2d20000, 0}, {0xc2d20001, 0}, {greatest, inf}},
		"Sigmoid":  {{0, half}, {minusZero, half}, {inf, one}, {minusInf, 0}, {nan, nan}, {greatest, one}},
		"Tanh":     {{0, 0}, {minusZero, minusZero}, {inf, one}, {minusInf, minusOne}, {nan, nan}, {0x41200000, one}, {0xc1200001, minusOne}, {greatest, one}},
	} {
		for _, c := range l {
			expectUnary(t, op, api.Float, c[0], c[1])
		}
	}
}

func TestUnaryOfOthers(t *testing.T) {
	for _, c := range []struct {
		op      string
		typ     int
		x, want int64
	}{
		{"Identity", api.Int32, min32, min32}, {"Identity", api.Int64, min64, min64}, {"Identity", api.Bool, 0, 0}, {"Identity", api.Bool, 1, 1},
		{"Neg", api.Int32, 5, -5}, {"Neg", api.Int32, 0, 0}, {"Neg", api.Int32, max32, -max32}, {"Neg", api.Int32, min32, min32},
		{"Neg", api.Int64, -5, 5}, {"Neg", api.Int64, min32, -min32}, {"Neg", api.Int64, max64, -max64}, {"Neg", api.Int64, min64, min64},
		{"Abs", api.Int32, -5, 5}, {"Abs", api.Int32, 5, 5}, {"Abs", api.Int32, 0, 0}, {"Abs", api.Int32, max32, max32}, {"Abs", api.Int32, min32, min32},
		{"Abs", api.Int64, -5, 5}, {"Abs", api.Int64, min32, -min32}, {"Abs", api.Int64, max64, max64}, {"Abs", api.Int64, min64, min64},
		{"Not", api.Bool, 0, 1}, {"Not", api.Bool, 1, 0},
	} {
		expectUnary(t, c.op, c.typ, c.x, c.want)
	}
}

func TestBinaryOfFloats(t *testing.T) {
	for op, l := range map[string][][3]int64{
		"Add":     {{one, two, 0x40400000}, {inf, minusInf, nan}, {inf, inf, inf}, {greatest, greatest, inf}, {nan, one, nan}, {one, nan, nan}, {minusZero, 0, 0}, {minusZero, minusZero, minusZero}, {one, minusOne, 0}, {tiny, tiny, 2}, {one, 0x33800000, one}, {one, 0x33800001, 0x3f800001}, {0x3f800001, 0x33800000, 0x3f800002}, {greatest, 0x73000000, inf}, {greatest, 0x72ffffff, greatest}},
		"Sub":     {{one, two, minusOne}, {inf, inf, nan}, {inf, minusInf, inf}, {minusZero, 0, minusZero}, {0, 0, 0}, {one, one, 0}, {nan, nan, nan}, {normal, tiny, 0x007fffff}},
		"Mul":     {{two, two, 0x40800000}, {greatest, two, inf}, {0, inf, nan}, {minusInf, 0, nan}, {minusZero, one, minusZero}, {minusOne, minusZero, 0}, {tiny, half, 0}, {0x00000003, half, 2}, {minusTiny, half, minusZero}, {nan, 0, nan}},
		"Div":     {{one, two, half}, {one, 0, inf}, {one, minusZero, minusInf}, {0, 0, nan}, {minusZero, 0, nan}, {inf, inf, nan}, {one, inf, 0}, {minusOne, inf, minusZero}, {nan, one, nan}, {one, 0x40400000, 0x3eaaaaab}, {greatest, half, inf}, {tiny, two, 0}},
		"Max":     {{one, two, two}, {minusZero, 0, 0}, {0, minusZero, 0}, {minusZero, minusZero, minusZero}, {nan, one, nan}, {one, nan, nan}, {inf, nan, nan}, {minusInf, greatest, greatest}, {minusOne, minusZero, minusZero}},
		"Min":     {{one, two, one}, {minusZero, 0, minusZero}, {0, minusZero, minusZero}, {0, 0, 0}, {nan, one, nan}, {minusInf, nan, nan}, {minusInf, inf, minusInf}, {0, one, 0}},
		"Equal":   {{one, one, 1}, {one, two, 0}, {0, minusZero, 1}, {minusZero, 0, 1}, {nan, nan, 0}, {nan, one, 0}, {inf, inf, 1}, {inf, minusInf, 0}, {0, tiny, 0}},
		"Less":    {{one, two, 1}, {two, one, 0}, {one, one, 0}, {minusZero, 0, 0}, {nan, one, 0}, {one, nan, 0}, {minusInf, inf, 1}, {minusTiny, 0, 1}, {minusOne, minusTiny, 1}},
		"Greater": {{two, one, 1}, {one, two, 0}, {one, one, 0}, {0, minusZero, 0}, {nan, one, 0}, {one, nan, 0}, {inf, minusInf, 1}, {tiny, minusZero, 1}},
	} {
		for _, c := range l {
			expectBinary(t, op, api.Float, c[0], c[1], c[2])
		}
	}
}

func TestBinaryOfWholeNumbers(t *testing.T) {
	for _, c := range []struct {
		op               string
		typ              int
		x, y, want, wide int64 // wide is what Int64 makes of it
	}{
		{"Add", api.Int32, max32, 1, min32, max32 + 1}, {"Add", api.Int32, min32, -1, max32, min32 - 1}, {"Add", api.Int32, 2, 3, 5, 5},
		{"Sub", api.Int32, min32, 1, max32, min32 - 1}, {"Sub", api.Int32, 0, min32, min32, -min32}, {"Sub", api.Int32, 2, 3, -1, -1},
		{"Mul", api.Int32, min32, min32, 0, 1 << 62}, {"Mul", api.Int32, max32, max32, 1, max32 * max32}, {"Mul", api.Int32, 65536, 32768, min32, 1 << 31}, {"Mul", api.Int32, -3, 5, -15, -15},
		{"Div", api.Int32, -7, 2, -3, -3}, {"Div", api.Int32, 7, -2, -3, -3}, {"Div", api.Int32, -7, -2, 3, 3}, {"Div", api.Int32, min32, -1, min32, -min32}, {"Div", api.Int32, min32, 1, min32, min32}, {"Div", api.Int32, 0, 5, 0, 0}, {"Div", api.Int32, 1, min32, 0, 0},
		{"Max", api.Int32, min32, max32, max32, max32}, {"Max", api.Int32, -1, -2, -1, -1}, {"Min", api.Int32, min32, max32, min32, min32}, {"Min", api.Int32, -1, -2, -2, -2},
		{"Equal", api.Int32, 5, 5, 1, 1}, {"Equal", api.Int32, 5, -5, 0, 0}, {"Less", api.Int32, min32, max32, 1, 1}, {"Less", api.Int32, 1, 1, 0, 0}, {"Less", api.Int32, 2, 1, 0, 0},
		{"Greater", api.Int32, max32, min32, 1, 1}, {"Greater", api.Int32, 1, 1, 0, 0}, {"Greater", api.Int32, 1, 2, 0, 0},
	} {
		expectBinary(t, c.op, api.Int32, c.x, c.y, c.want)
		expectBinary(t, c.op, api.Int64, c.x, c.y, c.wide)
	}
	for op, l := range map[string][][3]int64{
		"Add": {{max64, 1, min64}, {min64, min64, 0}}, "Sub": {{min64, 1, max64}, {0, min64, min64}}, "Mul": {{min64, -1, min64}, {1 << 32, 1 << 32, 0}, {max64, max64, 1}},
		"Div": {{min64, -1, min64}, {min64, 1, min64}, {max64, -1, -max64}, {max64, min64, 0}}, "Max": {{min64, max64, max64}}, "Min": {{min64, max64, min64}},
		"Equal": {{max64, max64 - 1, 0}, {min64, min64, 1}}, "Less": {{min64, max64, 1}, {max64 - 1, max64, 1}}, "Greater": {{max64, max64 - 1, 1}, {min64, max64, 0}},
	} {
		for _, c := range l {
			expectBinary(t, op, api.Int64, c[0], c[1], c[2])
		}
	}
}

func TestBinaryOfBools(t *testing.T) {
	for op, want := range map[string][4]int64{"And": {0, 0, 0, 1}, "Or": {0, 1, 1, 1}, "Xor": {0, 1, 1, 0}, "Equal": {1, 0, 0, 1}} {
		for i, w := range want {
			expectBinary(t, op, api.Bool, int64(i/2), int64(i%2), w)
		}
	}
}

func TestDivideByNought(t *testing.T) {
	for _, typ := range []int{api.Int32, api.Int64} {
		for _, x := range []int64{0, 1, -1, min32, max32} {
			if z, e := Binary("Div", typ, x, 0); z != 0 || e != api.ErrDivide {
				t.Errorf("P2.3: type %d: %d by 0: %d, %d", typ, x, z, e)
			}
		}
	}
	if z, e := Binary("Div", api.Int32, max32+1, 0); z != 0 || e != api.ErrArg {
		t.Errorf("P2.3, R2: what is no element by 0: %d, %d", z, e)
	}
}
