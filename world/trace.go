package world

import (
	"slices"
	"strconv"

	"turnstone/api"
)

// Print appends a line to the trace, unless the trace is full or no value of the kind can be printed.
func (w *World) Print(kind int, v uint64) {
	if w.Full() {
		return
	}
	switch kind {
	case api.Int:
		w.line(strconv.FormatInt(int64(v), 10))
	case api.Bool:
		w.line(strconv.FormatBool(v != 0))
	case api.Text:
		w.line(w.heap.String(v))
	}
}

func (w *World) line(s string) {
	w.lines = append(w.lines, s)
}

// Full reports whether the trace takes no further line.
func (w *World) Full() bool {
	return len(w.lines) >= api.MaxTrace
}

// Trace returns the lines, in memory of the caller's own.
func (w *World) Trace() []string {
	return slices.Clone(w.lines)
}

// Input takes the next input, and returns 0 without taking anything behind the last one.
func (w *World) Input() uint64 {
	if w.taken == len(w.inputs) {
		return 0
	}
	v := w.inputs[w.taken]
	w.taken++
	return uint64(v)
}

// Taken returns how many inputs were taken.
func (w *World) Taken() int {
	return w.taken
}
