package conv

import (
	"iter"

	"mandrel/api"
	"mandrel/attr"
)

// side is how windows stand along an image's height, or along its width.
type side struct {
	size   int // of the image
	kernel int // places of a window
	stride int // from a window to the next one
	apart  int // from a place to the next one
	pad    int // ahead of the image
}

// place is where a window has the place number i; false, if that is no place of the image.
func (s side) place(window, i int) (int, bool) {
	at := window*s.stride - s.pad + i*s.apart
	return at, at >= 0 && at < s.size
}

// windows are all those over an image.
type windows struct{ high, wide side }

// windowsOf are a node's, over images of what has dims.
func windowsOf(n api.Node, dims []int, kernel []int64) windows {
	strides, dilations, pads := attr.Strides(n), attr.Dilations(n), attr.Pads(n)
	along := func(i int) side {
		return side{size: dims[2+i], kernel: int(kernel[i]), stride: int(strides[i]), apart: int(dilations[i]), pad: int(pads[i])}
	}
	return windows{high: along(0), wide: along(1)}
}

// places are those of the window at h and w that count, in their order: each one's number in the kernel, and where it is in the image.
func (v windows) places(h, w int) iter.Seq2[int, int] {
	return func(yield func(int, int) bool) {
		for i := range v.high.kernel {
			row, counts := v.high.place(h, i)
			if !counts {
				continue
			}
			for j := range v.wide.kernel {
				column, counts := v.wide.place(w, j)
				if counts && !yield(i*v.wide.kernel+j, row*v.wide.size+column) {
					return
				}
			}
		}
	}
}

// each makes an image, as great as dims have it, of one window after the other.
func (v windows) each(dims []int, do func(places iter.Seq2[int, int]) int64) []int64 {
	image := make([]int64, 0, dims[2]*dims[3])
	for h := range dims[2] {
		for w := range dims[3] {
			image = append(image, do(v.places(h, w)))
		}
	}
	return image
}
