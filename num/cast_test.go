package num

import (
	"math/big"
	"math/rand"
	"testing"

	"mandrel/api"
)

func TestCastTable(t *testing.T) {
	for _, c := range []struct {
		from, to int
		x, want  int64
	}{
		{api.Float, api.Float, nan, nan}, {api.Float, api.Float, minusZero, minusZero}, {api.Int32, api.Int32, min32, min32}, {api.Int64, api.Int64, min64, min64}, {api.Bool, api.Bool, 1, 1},
		{api.Float, api.Bool, nan, 1}, {api.Float, api.Bool, 0, 0}, {api.Float, api.Bool, minusZero, 0}, {api.Float, api.Bool, tiny, 1}, {api.Float, api.Bool, minusTiny, 1}, {api.Float, api.Bool, inf, 1}, {api.Float, api.Bool, minusInf, 1},
		{api.Int32, api.Bool, 0, 0}, {api.Int32, api.Bool, min32, 1}, {api.Int32, api.Bool, -1, 1}, {api.Int64, api.Bool, 0, 0}, {api.Int64, api.Bool, 1 << 32, 1}, {api.Int64, api.Bool, min64, 1},
		{api.Bool, api.Float, 0, 0}, {api.Bool, api.Float, 1, one}, {api.Bool, api.Int32, 0, 0}, {api.Bool, api.Int32, 1, 1}, {api.Bool, api.Int64, 0, 0}, {api.Bool, api.Int64, 1, 1},
		{api.Int32, api.Int64, min32, min32}, {api.Int32, api.Int64, max32, max32},
		{api.Int64, api.Int32, 1 << 32, 0}, {api.Int64, api.Int32, max32 + 1, min32}, {api.Int64, api.Int32, min32 - 1, max32}, {api.Int64, api.Int32, max64, -1}, {api.Int64, api.Int32, min64, 0}, {api.Int64, api.Int32, min32, min32}, {api.Int64, api.Int32, -5, -5},
		{api.Int32, api.Float, 0, 0}, {api.Int32, api.Float, -1, minusOne}, {api.Int32, api.Float, 16777217, 0x4b800000}, {api.Int32, api.Float, 16777219, 0x4b800002}, {api.Int32, api.Float, max32, 0x4f000000}, {api.Int32, api.Float, min32, 0xcf000000},
		{api.Int64, api.Float, 16777217, 0x4b800000}, {api.Int64, api.Float, max64, 0x5f000000}, {api.Int64, api.Float, min64, 0xdf000000},
		// By way of 64 bits these two would be rounded to a half first, and then to the wrong side.
		{api.Int64, api.Float, 1<<60 + 1<<36 + 1, 0x5d800001}, {api.Int64, api.Float, -(1<<60 + 1<<36 + 1), 0xdd800001},
	} {
		expectCast(t, c.from, c.to, c.x, c.want)
	}
}

func TestCastFloatToWhole(t *testing.T) {
	for _, c := range []struct{ x, narrow, wide int64 }{
		{nan, 0, 0}, {0, 0, 0}, {minusZero, 0, 0}, {inf, max32, max64}, {minusInf, min32, min64}, {greatest, max32, max64}, {0xff7fffff, min32, min64},
		{one, 1, 1}, {minusHalf, 0, 0}, {0x3f7fffff, 0, 0}, {0xbf7fffff, 0, 0}, {0x40200000, 2, 2}, {0xc0200000, -2, -2}, {tiny, 0, 0}, {minusTiny, 0, 0},
		{0x4f000000, max32, 1 << 31}, {0x4effffff, 2147483520, 2147483520}, {0xcf000000, min32, min32}, {0xceffffff, -2147483520, -2147483520}, {0xcf000001, min32, -2147483904},
		{0x5f000000, max32, max64}, {0x5effffff, max32, 1<<63 - 1<<39}, {0xdf000000, min32, min64}, {0xdf000001, min32, min64}, {0xdeffffff, min32, -1<<63 + 1<<39},
	} {
		expectCast(t, api.Float, api.Int32, c.x, c.narrow)
		expectCast(t, api.Float, api.Int64, c.x, c.wide)
	}
}

// clamped is a float cut towards 0, and held between two numbers, by numbers of any length.
func clamped(x, least, most int64) int64 {
	if x == nan {
		return 0
	}
	f := bigOf(x)
	if f.Cmp(new(big.Float).SetInt64(least)) <= 0 {
		return least
	}
	if f.Cmp(new(big.Float).SetInt64(most)) >= 0 {
		return most
	}
	z, _ := f.Int64()
	return z
}

func TestCastAgainstBigNumbers(t *testing.T) {
	for _, x := range someFloats(20000) {
		expectCast(t, api.Float, api.Int32, x, clamped(x, min32, max32))
		expectCast(t, api.Float, api.Int64, x, clamped(x, min64, max64))
	}
	r := rand.New(rand.NewSource(3))
	for range 20000 {
		x := int64(r.Uint64()) >> r.Intn(64)
		expectCast(t, api.Int64, api.Float, x, bitsOf(new(big.Float).SetInt64(x)))
		expectCast(t, api.Int64, api.Int32, x, (x&0xffffffff^0x80000000)-0x80000000)
		if Check(api.Int32, x) {
			expectCast(t, api.Int32, api.Float, x, bitsOf(new(big.Float).SetInt64(x)))
		}
	}
}
