// Package told tells graphs as files, for tests: in any of the forms that pb.Decode reads. A function picks the form, of numbers ahead of another one.
package told

import (
	"slices"

	"mandrel/api"
	"mandrel/wire"
)

// File is a file of which pb.Decode is a graph that may be told; of one that may not be, it is some file. Fields stand in any order that counts for nothing, with others between them that nobody knows.
func File(pick func(int) int, g api.Graph) string {
	t := teller{pick}
	return t.message(t.joined(7, t.graph(g)))
}

// Spoilt is a file in which a byte is another one, or a piece is left out or stands twice, its end before others.
func Spoilt(pick func(int) int, s string) string {
	from, to := pick(len(s)+1), pick(len(s)+1)
	if from > to {
		from, to = to, from
	}
	switch pick(5) {
	case 0:
		return s[:from]
	case 1:
		return s[:from] + s[to:]
	case 2:
		return s[:to] + s[from:]
	}
	if from == len(s) {
		return s
	}
	return s[:from] + string([]byte{byte(pick(256))}) + s[from+1:]
}

type teller struct{ pick func(int) int }

// message puts lists of fields together, each in its order, one through the other.
func (t teller) message(lists ...[]api.Field) string {
	lists = append(lists, t.unknown())
	var l []api.Field
	for len(lists) > 0 {
		i := t.pick(len(lists))
		if len(lists[i]) == 0 {
			lists = slices.Delete(lists, i, i+1)
			continue
		}
		l = append(l, lists[i][0])
		lists[i] = lists[i][1:]
	}
	s, e := wire.Write(l)
	if e != api.OK {
		panic("a graph of too many bytes")
	}
	return s
}

// unknown are fields whose numbers no table has, none mostly.
func (t teller) unknown() []api.Field {
	if t.pick(4) > 0 {
		return nil
	}
	f := api.Field{Num: []int{6, 13, 99, 1<<29 - 1}[t.pick(4)], Kind: []int{api.WireVarint, api.Wire64, api.WireBytes, api.Wire32}[t.pick(4)]}
	if f.Kind == api.WireBytes {
		f.B = "\xff what"
	} else {
		f.U = uint64(t.pick(1 << 31))
	}
	return []api.Field{f}
}

// last is a field that counts, and often another one ahead of it, which does not.
func (t teller) last(f api.Field) []api.Field {
	other := f
	if f.Kind == api.WireBytes {
		other.B += "other"
	} else {
		other.U ^= 1
	}
	return []api.Field{other, f}[t.pick(2):]
}

func (t teller) number(num int, u uint64) []api.Field {
	return t.last(api.Field{Num: num, Kind: api.WireVarint, U: u})
}

// text may be left out, if there is none.
func (t teller) text(num int, s string) []api.Field {
	if s == "" && t.pick(2) == 0 {
		return nil
	}
	return t.last(bytes(num, s))
}

// joined are a message's bytes, in one field or cut into some.
func (t teller) joined(num int, s string) []api.Field {
	var l []api.Field
	for t.pick(3) == 0 {
		cut := t.pick(len(s) + 1)
		l = append(l, bytes(num, s[:cut]))
		s = s[cut:]
	}
	return append(l, bytes(num, s))
}

func bytes(num int, s string) api.Field { return api.Field{Num: num, Kind: api.WireBytes, B: s} }
