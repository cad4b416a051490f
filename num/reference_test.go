package num

import (
	"math"
	"math/big"
	"math/rand"
	"testing"

	"mandrel/api"
)

// specials are the floats at which something ends or begins.
func specials() []int64 {
	l := []int64{}
	for _, x := range []int64{0, tiny, 2, 0x007fffff, normal, 0x00800001, 0x33800000, half, 0x3effffff, 0x3f7fffff, one, 0x3f800001, two, 0x40490fdb, 0x41200000, 0x41200001, 0x42b17217, 0x42b17218, 0x42b20000, 0x42b20001, 0x42cff1b5, 0x42d20000, 0x42d20001, 0x4affffff, 0x4b000001, 0x4f000000, 0x5f000000, greatest, inf} {
		l = append(l, x, x|minusZero)
	}
	return append(l, nan)
}

// someFloats are the special ones and n others: half of them of any bits, half of a middling size, so that sums and powers are no infinities.
func someFloats(n int) []int64 {
	r := rand.New(rand.NewSource(4))
	l := specials()
	for len(l) < n {
		x := int64(r.Uint32())
		if len(l)%2 == 0 {
			x = toBits(float32((r.Float64() - 0.5) * math.Exp2(float64(r.Intn(16)-6))))
		}
		if Check(api.Float, x) {
			l = append(l, x)
		}
	}
	return l
}

// bigOf is a float as a number of any length (of the NaN there is none).
func bigOf(x int64) *big.Float {
	return new(big.Float).SetPrec(600).SetFloat64(float64(math.Float32frombits(uint32(x))))
}

// bitsOf rounds a number of any length to a float, once, to the nearest, of two to the even one.
func bitsOf(f *big.Float) int64 {
	z, _ := f.Float32()
	return int64(math.Float32bits(z))
}

// exactly does a step with numbers of any length, rounded once at the end; where there is no number, or a zero (whose sign big numbers have by rules of their own), it is told by the flag.
func exactly(op string, x, y int64) (int64, bool) {
	if x == nan || y == nan || bigOf(x).IsInf() || bigOf(y).IsInf() {
		return 0, false
	}
	a, b, z := bigOf(x), bigOf(y), new(big.Float).SetPrec(600)
	switch op {
	case "Add":
		z.Add(a, b)
	case "Sub":
		z.Sub(a, b)
	case "Mul":
		z.Mul(a, b)
	case "Div":
		if b.Sign() == 0 {
			return 0, false
		}
		z.Quo(a, b)
	}
	return bitsOf(z), z.Sign() != 0
}

func TestFloatStepsAgainstBigNumbers(t *testing.T) {
	l := someFloats(300)
	told := 0
	for _, x := range l {
		for _, y := range l {
			for _, op := range []string{"Add", "Sub", "Mul", "Div"} {
				if want, ok := exactly(op, x, y); ok {
					expectBinary(t, op, api.Float, x, y, want)
					told++
				}
			}
		}
	}
	if told < 100000 {
		t.Errorf("only %d steps were looked at: the test tells little", told)
	}
}

func TestSqrtAndFloorAgainstBigNumbers(t *testing.T) {
	for _, x := range someFloats(20000) {
		if x == nan || bigOf(x).IsInf() {
			continue
		}
		f := bigOf(x)
		if f.Sign() > 0 {
			expectUnary(t, "Sqrt", api.Float, x, bitsOf(new(big.Float).SetPrec(600).Sqrt(f)))
		}
		whole, _ := f.Int(nil)
		if f.Sign() < 0 && !f.IsInt() {
			whole.Sub(whole, big.NewInt(1))
		}
		if whole.Sign() != 0 {
			expectUnary(t, "Floor", api.Float, x, bitsOf(new(big.Float).SetPrec(600).SetInt(whole)))
		}
	}
}

func double(f float64) *big.Float { return new(big.Float).SetPrec(53).SetFloat64(f) }

// slowExp is the document's Exp with numbers of 53 bits, each step of which is rounded by itself.
func slowExp(x int64) int64 {
	f := math.Float32frombits(uint32(x))
	switch {
	case x == nan:
		return nan
	case f > 89:
		return inf
	case f < -105:
		return 0
	}
	y, z := double(float64(f)), func() *big.Float { return new(big.Float).SetPrec(53) }
	scaled, _ := z().Add(z().Mul(y, double(1.4426950408889634)), double(0.5)).Float64()
	k := int(math.Floor(scaled))
	r := z().Sub(y, z().Mul(double(float64(k)), double(0.6931471805599453)))
	p := double(1)
	for i := 13; i >= 1; i-- {
		p = z().Add(double(1), z().Quo(z().Mul(p, r), double(float64(i))))
	}
	return bitsOf(z().SetMantExp(p, k))
}

func TestExpStepByStep(t *testing.T) {
	for _, x := range someFloats(20000) {
		expectUnary(t, "Exp", api.Float, x, slowExp(x))
	}
	// Where it becomes an infinity, and where it becomes subnormal and nought.
	for _, around := range []int64{0x42b17218, 0xc2aeac50, 0xc2cff1b5} {
		for x := around - 500; x < around+500; x++ {
			expectUnary(t, "Exp", api.Float, x, slowExp(x))
		}
	}
	// Of all floats these tell it from a sum and product rounded as one, a shorter sum, or a constant with fewer digits.
	for _, x := range []int64{0x4288942b, 0xc16912cd, 0xbf81eadf, 0x4001b249, 0x40dd70cb, 0x428a94c5, 0x429675e7, 0x429c14f7} {
		expectUnary(t, "Exp", api.Float, x, slowExp(x))
	}
}

func TestSigmoidAndTanhStepByStep(t *testing.T) {
	step := func(op string, x, y int64) int64 {
		z, e := Binary(op, api.Float, x, y)
		if e != api.OK {
			t.Fatalf("P2.3: %s of %x, %x: %d", op, x, y, e)
		}
		return z
	}
	for _, x := range someFloats(20000) {
		if x == nan {
			continue
		}
		expectUnary(t, "Sigmoid", api.Float, x, step("Div", one, step("Add", one, slowExp(x^minusZero))))
		a := x &^ minusZero
		want := int64(one)
		if math.Float32frombits(uint32(a)) <= 10 {
			e := slowExp(step("Add", a, a))
			want = step("Div", step("Sub", e, one), step("Add", e, one))
		}
		expectUnary(t, "Tanh", api.Float, x, want|x&minusZero)
	}
}

func TestWhatComesOutIsAnElement(t *testing.T) {
	elements := map[int][]int64{api.Float: someFloats(150), api.Int32: {0, 1, -1, 2, -7, min32, min32 + 1, max32, 65536, -65536}, api.Int64: {0, 1, -1, 2, -7, min32, max32, min64, min64 + 1, max64, 1 << 32}, api.Bool: {0, 1}}
	for typ, l := range elements {
		for _, x := range l {
			for _, to := range types() {
				if z, e := Cast(typ, to, x); e != api.OK || !Check(to, z) {
					t.Errorf("P2.5: from %d to %d, of %x: %x, %d", typ, to, x, z, e)
				}
			}
			for _, op := range words() {
				if z, e := Unary(op, typ, x); e == api.OK && !Check(typ, z) {
					t.Errorf("P2.5: %s, type %d, of %x: %x", op, typ, x, z)
				}
				for _, y := range l {
					expectElementEitherWay(t, op, typ, x, y)
				}
			}
		}
	}
}

func expectElementEitherWay(t *testing.T, op string, typ int, x, y int64) {
	t.Helper()
	z, e := Binary(op, typ, x, y)
	out := typ
	switch op {
	case "Equal", "Less", "Greater":
		out = api.Bool
	}
	if e == api.OK && !Check(out, z) {
		t.Errorf("P2.5: %s, type %d, of %x, %x: %x", op, typ, x, y, z)
	}
	switch op {
	case "Add", "Mul", "Max", "Min", "And", "Or", "Xor", "Equal":
		if w, f := Binary(op, typ, y, x); w != z || f != e {
			t.Errorf("P2.5: %s, type %d, of %x, %x: %x, %d; the other way %x, %d", op, typ, x, y, z, e, w, f)
		}
	}
}
