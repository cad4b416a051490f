package sched

import (
	"encoding/hex"
	"math"
	"math/rand"
	"slices"
	"strings"
	"testing"

	"mandrel/api"
	"mandrel/num"
	"mandrel/spell"
)

func TestPutAndGet(t *testing.T) {
	for _, c := range []struct{ tensor, bytes string }{
		{"f 0:", ""}, {"i 0:", ""}, {"l 0:", ""}, {"b 0:", ""},
		{"i 2: -2 1", "feffffff 01000000"},
		{"i 3: 0 -1 305419896", "00000000 ffffffff 78563412"},
		{"i 2: -2147483648 2147483647", "00000080 ffffff7f"},
		{"l 2: -2 1", "feffffffffffffff 0100000000000000"},
		{"l 2: -9223372036854775808 9223372036854775807", "0000000000000080 ffffffffffffff7f"},
		{"l 3: 1311768467463790320 2147483648 -2147483649", "f0debc9a78563412 0000008000000000 ffffff7fffffffff"},
		{"b 3: 0 1 1", "00 01 01"},
		{"f 3: 1 -0 -2.5", "0000803f 00000080 000020c0"},
		{"f 3: nan inf -inf", "0000c07f 0000807f 000080ff"},
		{"f 4: 0 1e-45 -1e-45 -3.4028235e38", "00000000 01000000 01000080 ffff7fff"},
	} {
		x := spell.Tensor(c.tensor)
		want, _ := hex.DecodeString(strings.ReplaceAll(c.bytes, " ", ""))
		if b, e := Put(x.Type, x.Data); e != api.OK || !slices.Equal(b, want) {
			t.Errorf("P22.1: Put of %s: %x, %d", c.tensor, b, e)
		}
		if l, e := Get(x.Type, want); e != api.OK || !slices.Equal(l, x.Data) {
			t.Errorf("P22.1: Get of %s: %d, %d", c.bytes, l, e)
		}
	}
}

func TestPutOfNoElements(t *testing.T) {
	for _, c := range []struct {
		typ int
		l   []int64
	}{
		{api.Float, []int64{-1}}, {api.Float, []int64{1 << 32}}, {api.Float, []int64{api.NaN + 1}}, {api.Float, []int64{0, 0, 0xffc00000}}, {api.Float, []int64{0x7f800001, 0}}, {api.Float, []int64{0xffffffff}},
		{api.Int32, []int64{1 << 31}}, {api.Int32, []int64{-1<<31 - 1}}, {api.Int32, []int64{1, 2, 1 << 40}}, {api.Int32, []int64{math.MinInt64}},
		{api.Bool, []int64{2}}, {api.Bool, []int64{-1}}, {api.Bool, []int64{1, 0, 256}},
		{0, []int64{0}}, {2, []int64{0}}, {8, []int64{1}}, {10, []int64{1}}, {-1, []int64{1}}, {math.MaxInt, []int64{1}}, {math.MinInt, []int64{1}},
	} {
		if b, e := Put(c.typ, c.l); e != api.ErrArg || len(b) != 0 {
			t.Errorf("P22.1: Put of %d, %d: %x, %d", c.typ, c.l, b, e)
		}
	}
	// Of no data there is none that is no element, whatever the type.
	for _, typ := range []int{0, 2, -1, 10, math.MaxInt} {
		if b, e := Put(typ, nil); e != api.OK || len(b) != 0 {
			t.Errorf("P22.1: Put of %d, nothing: %x, %d", typ, b, e)
		}
	}
}

func TestGetOfNoElements(t *testing.T) {
	for _, c := range []struct {
		typ   int
		bytes string
	}{
		{api.Float, "00"}, {api.Float, "000000"}, {api.Float, "0000000000"}, {api.Int32, "01"}, {api.Int32, "01000000010000"}, {api.Int64, "00000000"}, {api.Int64, "000000000000000000"}, {api.Int64, "00000000000000"},
		{api.Float, "0100c07f"}, {api.Float, "0000c0ff"}, {api.Float, "ffffffff"}, {api.Float, "0100807f"}, {api.Float, "00000000ffffff7f"}, {api.Float, "ffffff7f00000000"},
		{api.Bool, "02"}, {api.Bool, "ff"}, {api.Bool, "000180"}, {api.Bool, "020001"},
		{0, ""}, {2, ""}, {-1, ""}, {10, ""}, {math.MaxInt, ""}, {math.MinInt, ""}, {0, "00"}, {3, "00"}, {8, "0000000000000000"},
	} {
		b, err := hex.DecodeString(c.bytes)
		if l, e := Get(c.typ, b); e != api.ErrArg || len(l) != 0 || err != nil {
			t.Errorf("P22.1: Get of %d, %s: %d, %d", c.typ, c.bytes, l, e)
		}
	}
	for typ := -300; typ < 300; typ++ {
		_, e := Get(typ, nil)
		_, f := Get(typ, make([]byte, 8))
		if is := num.Check(typ, 0); is != (e == api.OK) || is != (f == api.OK) {
			t.Errorf("P22.1: Get of the type %d: %d, %d", typ, e, f)
		}
	}
}

// Each is the other's opposite, wherever both answer.
func TestBytesAndBack(t *testing.T) {
	r := rand.New(rand.NewSource(1))
	met := map[api.Errno]int{}
	for range 20000 {
		typ := []int{api.Float, api.Int32, api.Int64, api.Bool}[r.Intn(4)]
		x := int64(r.Uint64()) >> r.Intn(65)
		data := []int64{0, x}
		b, e := Put(typ, data)
		if (e == api.OK) != num.Check(typ, x) {
			t.Fatalf("P22.1: Put of %d, %d: %d", typ, x, e)
		}
		if l, f := Get(typ, b); e == api.OK && (f != api.OK || !slices.Equal(l, data)) {
			t.Fatalf("P22.1: Get of %d, %x: %d, %d, not %d", typ, b, l, f, data)
		}
		met[e]++
		b = make([]byte, 8)
		for i := range b {
			b[i] = byte(r.Intn(256) >> r.Intn(9))
		}
		l, e := Get(typ, b)
		met[e]++
		if back, f := Put(typ, l); e == api.OK && (f != api.OK || !slices.Equal(back, b)) {
			t.Fatalf("P22.1: %x of %d: %d, and back %x, %d", b, typ, l, back, f)
		}
	}
	if met[api.OK] < 1000 || met[api.ErrArg] < 1000 {
		t.Errorf("met: %v", met)
	}
}
