package pb

import (
	"mandrel/api"
	"mandrel/num"
	"mandrel/shape"
)

func mayBeTold(g api.Graph) bool {
	if tooLong(g.Name) || tooMany(g) {
		return false
	}
	for _, n := range g.Nodes {
		if !nodeMayBeTold(n) {
			return false
		}
	}
	for _, t := range g.Inits {
		if tooLong(t.Name) || Check(t.T) != api.OK {
			return false
		}
	}
	return valuesMayBeTold(g.In) && valuesMayBeTold(g.Out)
}

func nodeMayBeTold(n api.Node) bool {
	if len(n.In) > api.MaxIn || len(n.Attrs) > api.MaxAttrs {
		return false
	}
	if tooLong(n.In...) || tooLong(n.Out, n.Name, n.Op) {
		return false
	}
	for _, a := range n.Attrs {
		if !attrMayBeTold(a) {
			return false
		}
	}
	return true
}

func valuesMayBeTold(l []api.Value) bool {
	for _, v := range l {
		if tooLong(v.Name) || !isType(v.Type) {
			return false
		}
		if _, e := shape.Count(v.Dims); e != api.OK {
			return false
		}
	}
	return true
}

// attrMayBeTold takes away from its copy what the Kind names: what is left must be nothing.
func attrMayBeTold(a api.Attr) bool {
	good := false
	switch a.Kind {
	case api.AttrFloat:
		good = num.Check(api.Float, a.F)
		a.F = 0
	case api.AttrInt:
		good = true
		a.I = 0
	case api.AttrString:
		good = !tooLong(a.S)
		a.S = ""
	case api.AttrTensor:
		good = Check(a.T) == api.OK
		a.T = api.Tensor{}
	case api.AttrInts:
		good = len(a.Ints) <= maxInts
		a.Ints = nil
	}
	return good && !tooLong(a.Name) && holdsNothing(a)
}

func holdsNothing(a api.Attr) bool {
	return a.F == 0 && a.I == 0 && a.S == "" && len(a.Ints) == 0 &&
		a.T.Type == 0 && len(a.T.Dims) == 0 && len(a.T.Data) == 0
}
