package num

import (
	"math"

	"mandrel/api"
)

const (
	signBit  = 1 << 31
	infinity = 0x7f800000
)

func fromBits(x int64) float32 { return math.Float32frombits(uint32(x)) }

// toBits makes the one NaN of whichever came out: machines make others.
func toBits(f float32) int64 {
	if f != f {
		return api.NaN
	}
	return int64(math.Float32bits(f))
}

func unaryFloat(op string, f float32) (int64, api.Errno) {
	switch op {
	case "Neg":
		return toBits(-f), api.OK
	case "Abs":
		return toBits(absolute(f)), api.OK
	case "Relu":
		return toBits(relu(f)), api.OK
	case "Sqrt":
		// 64 bits are more than twice 32 bits' digits: rounding twice is rounding once here.
		return toBits(float32(math.Sqrt(float64(f)))), api.OK
	case "Floor":
		return toBits(float32(math.Floor(float64(f)))), api.OK
	case "Exp":
		return toBits(exp(f)), api.OK
	case "Sigmoid":
		return toBits(sigmoid(f)), api.OK
	case "Tanh":
		return toBits(tanh(f)), api.OK
	}
	return 0, api.ErrArg
}

func binaryFloat(op string, x, y float32) (int64, api.Errno) {
	if op == "Div" {
		return toBits(x / y), api.OK
	}
	if z, ok := arithmetic(op, x, y); ok {
		return toBits(z), api.OK
	}
	return compare(op, x, y)
}

func absolute(f float32) float32 {
	return math.Float32frombits(math.Float32bits(f) &^ signBit)
}

// withSign is a number with the highest bit of another one.
func withSign(f, sign float32) float32 {
	return math.Float32frombits(math.Float32bits(f)&^signBit | math.Float32bits(sign)&signBit)
}

func relu(f float32) float32 {
	if f > 0 || f != f {
		return f
	}
	return 0
}

func sigmoid(f float32) float32 {
	return 1 / float32(1+exp(-f))
}

func tanh(f float32) float32 {
	a := absolute(f)
	if a > 10 {
		return withSign(1, f)
	}
	e := exp(float32(a + a))
	return withSign(float32(e-1)/float32(e+1), f)
}

// exp rounds each step by itself: the conversions keep a product and a sum from being made one.
func exp(x float32) float32 {
	switch {
	case x != x:
		return x
	case x > 89:
		return fromBits(infinity)
	case x < -105:
		return 0
	}
	y := float64(x)
	k := math.Floor(float64(y*1.4426950408889634) + 0.5)
	r := y - float64(k*0.6931471805599453)
	p := 1.0
	for i := 13; i >= 1; i-- {
		p = 1 + float64(float64(p*r)/float64(i))
	}
	p = math.Ldexp(p, int(k))
	// Halfway from the greatest float to the next power of two: what is rounded beyond is the language's to choose.
	if p >= 3.4028235677973366e38 {
		return fromBits(infinity)
	}
	return float32(p)
}
