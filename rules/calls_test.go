package rules

import (
	"testing"

	"mandrel/api"
	"mandrel/arena"
	"mandrel/conv"
	"mandrel/elem"
	"mandrel/fold"
	"mandrel/fuse"
	"mandrel/graph"
	"mandrel/infer"
	"mandrel/layout"
	"mandrel/linear"
	"mandrel/live"
	"mandrel/load"
	"mandrel/move"
	"mandrel/num"
	"mandrel/passes"
	"mandrel/pb"
	"mandrel/reduce"
	"mandrel/runner"
	"mandrel/sched"
	"mandrel/schema"
	"mandrel/sem"
	"mandrel/shape"
	"mandrel/tile"
	"mandrel/view"
	"mandrel/wire"
)

type (
	dimsToDims = func([]int, []int) ([]int, api.Errno)
	viewToView = func(api.View, []int) (api.View, api.Errno)
	doNode     = func(api.Node, []api.Tensor) (api.Tensor, api.Errno)
	graphPass  = func(api.Graph) (api.Graph, api.Errno)
)

// The calls that the chapters list, each with its signature: what does not fit does not compile.
var (
	_ func(uint64) string                                                        = wire.Varint
	_ func(string, int) (uint64, int, api.Errno)                                 = wire.TakeVarint
	_ func(string) ([]api.Field, api.Errno)                                      = wire.Fields
	_ func([]api.Field) (string, api.Errno)                                      = wire.Write
	_ func(string) ([]uint64, api.Errno)                                         = wire.Packed
	_ func(int, int64) bool                                                      = num.Check
	_ func(string, int, int64) (int64, api.Errno)                                = num.Unary
	_ func(string, int, int64, int64) (int64, api.Errno)                         = num.Binary
	_ func(int, int, int64) (int64, api.Errno)                                   = num.Cast
	_ func([]int) (int, api.Errno)                                               = shape.Count
	_ dimsToDims                                                                 = shape.Broadcast
	_ func([]int) ([]int, api.Errno)                                             = shape.Strides
	_ func([]int, []int) (int, api.Errno)                                        = shape.Offset
	_ func([]int, int) ([]int, api.Errno)                                        = shape.Coords
	_ func([]int) (api.View, api.Errno)                                          = view.Whole
	_ viewToView                                                                 = view.Transpose
	_ func(api.View, int, int, int) (api.View, api.Errno)                        = view.Slice
	_ viewToView                                                                 = view.Spread
	_ viewToView                                                                 = view.Reshape
	_ func(api.View, []int64) ([]int64, api.Errno)                               = view.Read
	_ func(string) (api.Graph, api.Errno)                                        = pb.Decode
	_ func(api.Graph) (string, api.Errno)                                        = pb.Encode
	_ func(api.Tensor) api.Errno                                                 = pb.Check
	_ func(api.Node) api.Errno                                                   = schema.Check
	_ func(api.Node, string, int64) int64                                        = schema.Int
	_ func(api.Node, string, []int64) []int64                                    = schema.Ints
	_ func(api.Node, string, int64) int64                                        = schema.Bits
	_ func(api.Node) ([]string, api.Errno)                                       = schema.Then
	_ func(api.Graph) api.Errno                                                  = graph.Check
	_ func(api.Graph) ([]int, api.Errno)                                         = graph.Order
	_ func(api.Graph, string) []int                                              = graph.Readers
	_ func(api.Node, []api.Value) (api.Value, api.Errno)                         = infer.Out
	_ func(api.Graph) ([]api.Value, api.Errno)                                   = infer.All
	_ doNode                                                                     = elem.Do
	_ doNode                                                                     = move.Do
	_ doNode                                                                     = reduce.Do
	_ doNode                                                                     = linear.Do
	_ doNode                                                                     = conv.Do
	_ doNode                                                                     = sem.Do
	_ func(api.Graph, []api.Tensor) ([]api.Tensor, api.Errno)                    = sem.Eval
	_ graphPass                                                                  = fold.Fold
	_ graphPass                                                                  = fold.Dead
	_ graphPass                                                                  = fuse.Fuse
	_ graphPass                                                                  = layout.Plain
	_ func(api.Graph, int) (api.Graph, api.Errno)                                = passes.Run
	_ func(api.Graph) ([][]bool, api.Errno)                                      = live.Before
	_ func(api.Graph, int, int) (bool, api.Errno)                                = live.Apart
	_ func(api.Value) (int, api.Errno)                                           = live.Width
	_ func(api.Graph) (api.Layout, api.Errno)                                    = arena.Plan
	_ func(api.Node, []api.Tensor, int, int) ([]int64, api.Errno)                = tile.Part
	_ func(int, int, int) ([]api.Step, api.Errno)                                = tile.Steps
	_ func(int, []int64) ([]byte, api.Errno)                                     = sched.Put
	_ func(int, []byte) ([]int64, api.Errno)                                     = sched.Get
	_ func(api.Graph, api.Layout) bool                                           = sched.Fits
	_ func(api.Graph, api.Layout, []api.Tensor, int) (*sched.Machine, api.Errno) = sched.New
	_ func(*sched.Machine) []api.Step                                            = (*sched.Machine).Enabled
	_ func(*sched.Machine, api.Step) api.Errno                                   = (*sched.Machine).Do
	_ func(*sched.Machine, api.Step) ([]api.Place, []api.Place)                  = (*sched.Machine).Touches
	_ func(*sched.Machine) ([]api.Tensor, api.Errno)                             = (*sched.Machine).Out
	_ func(string, int) (api.Plan, api.Errno)                                    = load.Load
	_ func(api.Plan) api.Errno                                                   = load.Check
	_ func(api.Plan, []api.Tensor, int, []int) ([]api.Tensor, api.Errno)         = runner.Run
)

func TestErrorsAndLimits(t *testing.T) {
	errors := []api.Errno{api.OK, api.ErrArg, api.ErrWire, api.ErrGraph, api.ErrUnsupported, api.ErrLimit, api.ErrDivide, api.ErrIndex}
	for i, want := range []api.Errno{0, 1, 3, 4, 5, 6, 7, 8} {
		if errors[i] != want {
			t.Errorf("DOC.md, errors: number %d is %d, not %d", i, errors[i], want)
		}
	}
	numbers := []int{
		api.MaxRank, api.MaxElems, api.MaxNodes, api.MaxValues, api.MaxName, api.MaxBytes, api.MaxArena, api.MaxAttrs, api.MaxIn, api.Align,
		api.Float, api.Int32, api.Int64, api.Bool, api.NaN,
		api.WireVarint, api.Wire64, api.WireBytes, api.Wire32,
		api.AttrFloat, api.AttrInt, api.AttrString, api.AttrTensor, api.AttrInts,
		api.PassFold, api.PassDead, api.PassPlain, api.PassFuse, api.PassAll,
	}
	for i, want := range []int{
		6, 65536, 1000, 3000, 100, 16777216, 67108864, 20, 20, 8,
		1, 6, 7, 9, 0x7fc00000,
		0, 1, 2, 5,
		1, 2, 3, 4, 7,
		1, 2, 4, 8, 15,
	} {
		if numbers[i] != want {
			t.Errorf("DOC.md, limits and kinds: number %d is %d, not %d", i, numbers[i], want)
		}
	}
}
