package pb

import "mandrel/api"

// parts are what a tensor's message has for its elements: which of them count, its type says.
type parts struct {
	floats, int32s, int64s []int64
	raw                    string
}

func readTensor(s string) api.Named {
	var t api.Named
	var dims []int64
	var p parts
	c := open(s)
	for c.next() {
		switch c.field.Num {
		case 1:
			dims = c.numbers(dims)
		case 2:
			t.T.Type = toInt(c.number())
		case 4:
			p.floats = c.floats(p.floats)
		case 5:
			p.int32s = c.numbers(p.int32s)
		case 7:
			p.int64s = c.numbers(p.int64s)
		case 8:
			t.Name = c.text()
		case 9:
			p.raw = c.text()
		}
	}
	t.T.Dims = toInts(dims)
	t.T.Data = p.data(t.T.Type)
	stop(Check(t.T))
	stopIf(tooLong(t.Name), api.ErrLimit)
	return t
}

// data are the elements of a type; of none it does not matter which, Check refuses it first.
func (p parts) data(typ int) []int64 {
	switch {
	case p.raw != "":
		return elements(typ, p.raw)
	case typ == api.Float:
		return p.floats
	case typ == api.Int64:
		return p.int64s
	}
	return p.int32s
}

// elements takes them out of bytes, the lowest first. If bytes are left over, there are none, which is too few for any dims.
func elements(typ int, s string) []int64 {
	w := width(typ)
	if len(s)%w != 0 {
		return nil
	}
	l := make([]int64, 0, len(s)/w)
	for ; s != ""; s = s[w:] {
		u := uint64(0)
		for i := range w {
			u |= uint64(s[i]) << (8 * i)
		}
		l = append(l, element(typ, u))
	}
	return l
}

func element(typ int, u uint64) int64 {
	switch typ {
	case api.Float:
		return oneNaN(int64(u))
	case api.Int32:
		return int64(int32(u))
	}
	return int64(u)
}

// width is how many bytes an element has.
func width(typ int) int {
	switch typ {
	case api.Float, api.Int32:
		return 4
	case api.Int64:
		return 8
	}
	return 1
}
