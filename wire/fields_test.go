package wire

import (
	"math"
	"math/rand"
	"slices"
	"strings"
	"testing"
	"unsafe"

	"mandrel/api"
)

func expectFields(t *testing.T, s string, want ...api.Field) {
	t.Helper()
	l, e := Fields(s)
	if e != api.OK || !slices.Equal(l, want) {
		t.Errorf("P1.2: %.40x: %v, %d, not %v", s, l, e, want)
	}
}

func expectNoFields(t *testing.T, s string, want api.Errno) {
	t.Helper()
	if l, e := Fields(s); len(l) != 0 || e != want {
		t.Errorf("P1.2: %.40x: %d fields, %d, not error %d", s, len(l), e, want)
	}
}

func expectNoText(t *testing.T, want api.Errno, l ...api.Field) {
	t.Helper()
	if s, e := Write(l); s != "" || e != want {
		t.Errorf("P1.3: %d fields: %.40x, %d, not error %d", len(l), s, e, want)
	}
}

func TestFieldsExamples(t *testing.T) {
	expectFields(t, "")
	expectFields(t, "\x08\x96\x01", api.Field{Num: 1, Kind: api.WireVarint, U: 150})
	expectFields(t, "\x12\x02ab", api.Field{Num: 2, Kind: api.WireBytes, B: "ab"})
	expectFields(t, "\x12\x00", api.Field{Num: 2, Kind: api.WireBytes})
	expectFields(t, "\x1d\x04\x03\x02\x01", api.Field{Num: 3, Kind: api.Wire32, U: 0x01020304})
	expectFields(t, "\x21\x08\x07\x06\x05\x04\x03\x02\x01", api.Field{Num: 4, Kind: api.Wire64, U: 0x0102030405060708})
	expectFields(t, "\x0d\xff\xff\xff\xff\x09\xff\xff\xff\xff\xff\xff\xff\xff",
		api.Field{Num: 1, Kind: api.Wire32, U: math.MaxUint32}, api.Field{Num: 1, Kind: api.Wire64, U: math.MaxUint64})
	for _, s := range []string{"\x0b", "\x00", "\x12\x05a"} {
		expectNoFields(t, s, api.ErrWire)
	}
}

func TestFieldsLongForms(t *testing.T) {
	for more := range 10 {
		expectFields(t, longForm(8, more)+"\x05", api.Field{Num: 1, U: 5})
		expectFields(t, "\x08"+longForm(5, more), api.Field{Num: 1, U: 5})
		expectFields(t, "\x12"+longForm(2, more)+"ab", api.Field{Num: 2, Kind: api.WireBytes, B: "ab"})
		expectFields(t, longForm(0x12, more)+longForm(0, more)+longForm(0x0d, more)+"abcd",
			api.Field{Num: 2, Kind: api.WireBytes}, api.Field{Num: 1, Kind: api.Wire32, U: 0x64636261})
	}
	expectFields(t, longForm(maxTag-7, 5)+"\x05", api.Field{Num: 536870911, U: 5})
	expectNoFields(t, longForm(8, 10)+"\x05", api.ErrWire)
	expectNoFields(t, "\x08"+longForm(5, 10), api.ErrWire)
	expectNoFields(t, "\x12"+longForm(2, 10)+"ab", api.ErrWire)
}

func TestFieldsNumbersAndKinds(t *testing.T) {
	known := map[int]string{api.WireVarint: "\x00", api.Wire64: "12345678", api.WireBytes: "\x00", api.Wire32: "1234"}
	for kind := range 8 {
		behind, ok := known[kind]
		if !ok {
			behind = "\x00\x00\x00\x00\x00\x00\x00\x00"
		}
		for _, num := range []uint64{0, 1, 15, 16, 536870911, 536870912, 1 << 32, 1<<61 - 1} {
			s := Varint(num<<3|uint64(kind)) + behind
			if !ok || num < 1 || num > 536870911 {
				expectNoFields(t, s, api.ErrWire)
				continue
			}
			l, e := Fields(s)
			if e != api.OK || len(l) != 1 || l[0].Num != int(num) || l[0].Kind != kind {
				t.Errorf("P1.2: %x: %v, %d", s, l, e)
			}
		}
	}
}

func TestFieldsOfManyBytesThatAreNot(t *testing.T) {
	for _, n := range []uint64{1, 2, 127, 128, 1<<31 - 1, 1 << 31, 1<<32 - 1, 1 << 32, 1<<63 - 1, 1 << 63, math.MaxUint64} {
		expectNoFields(t, "\x12"+Varint(n), api.ErrWire)
		expectNoFields(t, "\x08\x00\x12"+Varint(n), api.ErrWire)
		expectNoFields(t, "\x12\x01a\x12"+Varint(n)+"\x08\x00"[:min(n-1, 2)], api.ErrWire)
	}
}

func TestFieldsCut(t *testing.T) {
	l := []api.Field{{Num: 1, U: 300}, {Num: 16, Kind: api.Wire64, U: 1}, {Num: 2, Kind: api.WireBytes, B: "abc"}, {Num: 3, Kind: api.Wire32, U: 4}}
	s := ""
	whole := map[int]int{0: 0}
	for i, f := range l {
		one, _ := Write([]api.Field{f})
		s += one
		whole[len(s)] = i + 1
	}
	for n := range len(s) + 1 {
		if k, ok := whole[n]; ok {
			expectFields(t, s[:n], l[:k]...)
		} else {
			expectNoFields(t, s[:n], api.ErrWire)
		}
	}
}

func TestFieldsLimit(t *testing.T) {
	full := "\x12" + Varint(api.MaxBytes-5) + strings.Repeat("x", api.MaxBytes-5)
	if l, e := Fields(full); e != api.OK || len(l) != 1 || len(l[0].B) != api.MaxBytes-5 {
		t.Errorf("P1.2: MaxBytes bytes: %d fields, %d", len(l), e)
	}
	kib := "\x12" + Varint(1021) + strings.Repeat("x", 1021)
	if l, e := Fields(strings.Repeat(kib, api.MaxBytes/1024)); e != api.OK || len(l) != api.MaxBytes/1024 {
		t.Errorf("P1.2: MaxBytes bytes: %d fields, %d", len(l), e)
	}
	expectNoFields(t, "\x12"+Varint(api.MaxBytes-4)+strings.Repeat("x", api.MaxBytes-4), api.ErrLimit)
	expectNoFields(t, strings.Repeat("\x00", api.MaxBytes), api.ErrWire)
	expectNoFields(t, strings.Repeat("\x00", api.MaxBytes+1), api.ErrLimit)
}

func TestWriteExamples(t *testing.T) {
	for i, c := range []struct {
		l    []api.Field
		want string
	}{
		{nil, ""},
		{[]api.Field{{Num: 1, U: 150}}, "\x08\x96\x01"},
		{[]api.Field{{Num: 1, U: math.MaxUint64}}, "\x08\xff\xff\xff\xff\xff\xff\xff\xff\xff\x01"},
		{[]api.Field{{Num: 2, Kind: api.WireBytes, B: "ab"}, {Num: 2, Kind: api.WireBytes}}, "\x12\x02ab\x12\x00"},
		{[]api.Field{{Num: 3, Kind: api.Wire32, U: 0x01020304}}, "\x1d\x04\x03\x02\x01"},
		{[]api.Field{{Num: 3, Kind: api.Wire32, U: math.MaxUint32}}, "\x1d\xff\xff\xff\xff"},
		{[]api.Field{{Num: 536870911, Kind: api.Wire64, U: 1 << 63}}, "\xf9\xff\xff\xff\x0f\x00\x00\x00\x00\x00\x00\x00\x80"},
	} {
		if s, e := Write(c.l); s != c.want || e != api.OK {
			t.Errorf("P1.3: case %d: %x, %d", i, s, e)
		}
	}
}

func TestWriteWrongFields(t *testing.T) {
	good := api.Field{Num: 1, Kind: api.WireBytes, B: "ok"}
	for _, f := range []api.Field{
		{}, {Num: -1}, {Num: math.MinInt}, {Num: 536870912}, {Num: math.MaxInt},
		{Num: 1, Kind: -1}, {Num: 1, Kind: 3}, {Num: 1, Kind: 4}, {Num: 1, Kind: 6}, {Num: 1, Kind: 7}, {Num: 1, Kind: 8}, {Num: 1, Kind: math.MaxInt}, {Num: 1, Kind: math.MinInt},
		{Num: 1, Kind: api.Wire32, U: 1 << 32}, {Num: 1, Kind: api.Wire32, U: math.MaxUint64},
		{Num: 1, B: "x"}, {Num: 1, Kind: api.Wire64, B: "x"}, {Num: 1, Kind: api.Wire32, B: "x"},
		{Num: 1, Kind: api.WireBytes, U: 1}, {Num: 1, Kind: api.WireBytes, U: 1, B: "x"},
	} {
		expectNoText(t, api.ErrArg, f)
		expectNoText(t, api.ErrArg, good, f)
		expectNoText(t, api.ErrArg, f, good)
	}
}

func TestWriteLimit(t *testing.T) {
	b := strings.Repeat("x", api.MaxBytes-4)
	full := api.Field{Num: 1, Kind: api.WireBytes, B: b[1:]}
	s, e := Write([]api.Field{full})
	if len(s) != api.MaxBytes || e != api.OK {
		t.Errorf("P1.3: MaxBytes bytes: %d, %d", len(s), e)
	}
	expectFields(t, s, full)
	expectNoText(t, api.ErrLimit, api.Field{Num: 1, Kind: api.WireBytes, B: b})
	expectNoText(t, api.ErrLimit, api.Field{Num: 16, Kind: api.WireBytes, B: b[1:]})
	expectNoText(t, api.ErrLimit, full, api.Field{Num: 1})
	// What is named first goes first: a wrong field far behind what is too great, too.
	expectNoText(t, api.ErrArg, full, full, full, api.Field{Num: 0})
	many := slices.Repeat([]api.Field{{Num: 2, Kind: api.WireBytes, B: b[:1021]}}, api.MaxBytes/1024)
	if s, e := Write(many); len(s) != api.MaxBytes || e != api.OK {
		t.Errorf("P1.3: MaxBytes bytes: %d, %d", len(s), e)
	}
	expectNoText(t, api.ErrLimit, append(many, api.Field{Num: 1})...)
	expectNoText(t, api.ErrLimit, slices.Repeat([]api.Field{full}, 1000)...)
}

// someFields makes fields of all kinds, with numbers of all lengths.
func someFields(r *rand.Rand, n int) []api.Field {
	kinds := [4]int{api.WireVarint, api.Wire64, api.WireBytes, api.Wire32}
	l := make([]api.Field, n)
	for i := range l {
		f := api.Field{Num: 1 + r.Intn(536870911)>>r.Intn(29), Kind: kinds[r.Intn(4)]}
		switch f.Kind {
		case api.WireBytes:
			b := make([]byte, r.Intn(200))
			r.Read(b)
			f.B = string(b)
		case api.Wire32:
			f.U = uint64(r.Uint32() >> r.Intn(32))
		default:
			f.U = r.Uint64() >> r.Intn(64)
		}
		l[i] = f
	}
	return l
}

func TestFieldsOfWrite(t *testing.T) {
	r := rand.New(rand.NewSource(1))
	for range 300 {
		a, b := someFields(r, r.Intn(10)), someFields(r, r.Intn(10))
		s, e := Write(a)
		if e != api.OK {
			t.Fatalf("P1.5: %v: %d", a, e)
		}
		expectFields(t, s, a...)
		u, _ := Write(b)
		expectFields(t, s+u, append(slices.Clone(a), b...)...)
		both, _ := Write(append(slices.Clone(a), b...))
		if both != s+u {
			t.Errorf("P1.5: %x and %x together: %x", s, u, both)
		}
	}
}

// TestWrittenAgain reads bytes of any kind: what can be read is the same when it is written and read again.
func TestWrittenAgain(t *testing.T) {
	r := rand.New(rand.NewSource(2))
	small := []byte{0, 1, 2, 5, 8, 9, 10, 13, 16, 17, 18, 21, 128, 130, 136, 255}
	read := 0
	for range 20000 {
		b := make([]byte, r.Intn(24))
		for i := range b {
			b[i] = small[r.Intn(len(small))]
		}
		l, e := Fields(string(b))
		if e != api.OK {
			expectNoFields(t, string(b), api.ErrWire)
			continue
		}
		read++
		s, e := Write(l)
		if e != api.OK || len(s) > len(b) {
			t.Errorf("P1.5: %x: %x, %d", b, s, e)
		}
		expectFields(t, s, l...)
	}
	if read < 100 {
		t.Errorf("only %d texts could be read: the test tells little", read)
	}
}

func TestAnswersAreNew(t *testing.T) {
	s := strings.Repeat("\x12\x02ab\x08\x01", 3)
	l, _ := Fields(s)
	kept := slices.Clone(l)
	for _, f := range l {
		if f.Kind != api.WireBytes {
			continue
		}
		at, from := uintptr(unsafe.Pointer(unsafe.StringData(f.B))), uintptr(unsafe.Pointer(unsafe.StringData(s)))
		if at >= from && at < from+uintptr(len(s)) {
			t.Errorf("R5: what Fields answers shares memory with its argument")
		}
	}
	clear(l[:cap(l)])
	if m, _ := Fields(s); !slices.Equal(m, kept) {
		t.Errorf("R5, R6: Fields answers %v behind a change of its answer", m)
	}
	p, _ := Packed("\x01\x02\x03")
	clear(p[:cap(p)])
	if p, _ := Packed("\x01\x02\x03"); !slices.Equal(p, []uint64{1, 2, 3}) {
		t.Errorf("R5, R6: Packed answers %v behind a change of its answer", p)
	}
	in := slices.Clone(kept)
	if w, e := Write(in); w != s || e != api.OK || !slices.Equal(in, kept) {
		t.Errorf("R5: Write: %x, %d, with %v", w, e, in)
	}
}
