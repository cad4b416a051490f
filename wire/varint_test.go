package wire

import (
	"encoding/binary"
	"math"
	"strings"
	"testing"

	"mandrel/api"
)

// edges are numbers around each power of two, where groups begin and end.
func edges() []uint64 {
	l := []uint64{0, 300, math.MaxUint64}
	for i := range 64 {
		u := uint64(1) << i
		l = append(l, u-1, u, u+1)
	}
	return l
}

// longForm is a number's form with groups of nought more at its end.
func longForm(u uint64, more int) string {
	s := Varint(u)
	for range more {
		last := s[len(s)-1]
		s = s[:len(s)-1] + string([]byte{last | 128, 0})
	}
	return s
}

func TestVarintExamples(t *testing.T) {
	for u, want := range map[uint64]string{
		0: "\x00", 1: "\x01", 127: "\x7f", 128: "\x80\x01", 300: "\xac\x02", 16383: "\xff\x7f", 16384: "\x80\x80\x01",
		1 << 63:        "\x80\x80\x80\x80\x80\x80\x80\x80\x80\x01",
		1<<63 - 1:      "\xff\xff\xff\xff\xff\xff\xff\xff\x7f",
		math.MaxUint64: "\xff\xff\xff\xff\xff\xff\xff\xff\xff\x01",
	} {
		if s := Varint(u); s != want {
			t.Errorf("P1.1: %d: %x, not %x", u, s, want)
		}
	}
}

func TestVarintAtEdges(t *testing.T) {
	for _, u := range edges() {
		want := string(binary.AppendUvarint(nil, u))
		if s := Varint(u); s != want {
			t.Errorf("P1.1: %d: %x, not %x", u, s, want)
		}
		if n := varintLength(u); n != len(want) {
			t.Errorf("P1.3: %d: length %d, not %d", u, n, len(want))
		}
	}
}

func TestTakeVarintLongForms(t *testing.T) {
	for _, u := range edges() {
		for more := 0; len(Varint(u))+more <= 10; more++ {
			s := longForm(u, more)
			for _, ahead := range []string{"", "\x80", "ab"} {
				v, at, e := TakeVarint(ahead+s+"\xff", len(ahead))
				if v != u || at != len(ahead)+len(s) || e != api.OK {
					t.Errorf("P1.1: %x: %d, %d, %d", s, v, at, e)
				}
			}
		}
		// Eleven groups are too many, whatever the last one is.
		expectNoVarint(t, longForm(u, 11-len(Varint(u))), 0, api.ErrWire)
	}
}

func expectNoVarint(t *testing.T, s string, at int, want api.Errno) {
	t.Helper()
	if u, behind, e := TakeVarint(s, at); u != 0 || behind != 0 || e != want {
		t.Errorf("P1.1: %x at %d: %d, %d, %d, not error %d", s, at, u, behind, e, want)
	}
}

func TestTakeVarintMalformed(t *testing.T) {
	for _, u := range edges() {
		s := Varint(u)
		for n := range len(s) {
			expectNoVarint(t, s[:n], 0, api.ErrWire)
			expectNoVarint(t, "\x00"+s[:n], 1, api.ErrWire)
		}
	}
	nine := strings.Repeat("\x80", 9)
	for b := 2; b < 256; b++ {
		expectNoVarint(t, nine+string([]byte{byte(b)})+"\x00", 0, api.ErrWire)
	}
	expectNoVarint(t, strings.Repeat("\xff", 100), 0, api.ErrWire)
}

func TestTakeVarintPlaces(t *testing.T) {
	for _, s := range []string{"", "\x01", "\x80"} {
		for _, at := range []int{-1, math.MinInt, len(s) + 1, math.MaxInt} {
			expectNoVarint(t, s, at, api.ErrArg)
		}
		expectNoVarint(t, s, len(s), api.ErrWire)
	}
}

func TestPacked(t *testing.T) {
	for i, c := range []struct {
		s    string
		want []uint64
		e    api.Errno
	}{
		{"", nil, api.OK},
		{"\x00", []uint64{0}, api.OK},
		{"\x01\xac\x02", []uint64{1, 300}, api.OK},
		{"\x80\x00\x81\x80\x00\x05", []uint64{0, 1, 5}, api.OK},
		{longForm(math.MaxUint64, 0) + longForm(7, 9), []uint64{math.MaxUint64, 7}, api.OK},
		{"\x80", nil, api.ErrWire},
		{"\x01\x02\xac", nil, api.ErrWire},
		{longForm(7, 10), nil, api.ErrWire},
		{"\x01" + strings.Repeat("\xff", 9) + "\x02", nil, api.ErrWire},
	} {
		l, e := Packed(c.s)
		if e != c.e || len(l) != len(c.want) {
			t.Errorf("P1.4: case %d: %v, %d", i, l, e)
			continue
		}
		for j := range l {
			if l[j] != c.want[j] {
				t.Errorf("P1.4: case %d: %v", i, l)
			}
		}
	}
}

func TestPackedEdgesTogether(t *testing.T) {
	var s string
	var want []uint64
	for i, u := range edges() {
		s += longForm(u, i%(11-len(Varint(u))))
		want = append(want, u)
	}
	l, e := Packed(s)
	if e != api.OK || len(l) != len(want) {
		t.Fatalf("P1.4: %d numbers, %d", len(l), e)
	}
	for i := range l {
		if l[i] != want[i] {
			t.Errorf("P1.4: number %d: %d, not %d", i, l[i], want[i])
		}
	}
}

func TestPackedHasNoLimit(t *testing.T) {
	l, e := Packed(strings.Repeat("\x05", api.MaxBytes+1))
	if len(l) != api.MaxBytes+1 || e != api.OK {
		t.Errorf("P1.4: %d numbers, %d", len(l), e)
	}
}
