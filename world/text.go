package world

import (
	"turnstone/api"
)

// Cat allocates the text that consists of the texts a and b; an empty one is the reference 0.
func (w *World) Cat(a, b uint64) (uint64, bool) {
	s := w.heap.String(a) + w.heap.String(b)
	if len(s) > api.MaxLen {
		return 0, false
	}
	return w.heap.Text(s)
}

// Equal reports whether the texts a and b have the same bytes.
func (w *World) Equal(a, b uint64) bool {
	return w.heap.String(a) == w.heap.String(b)
}

// Less reports whether the text a comes before the text b, byte by byte.
func (w *World) Less(a, b uint64) bool {
	return w.heap.String(a) < w.heap.String(b)
}
