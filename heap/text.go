package heap

import (
	"turnstone/api"
)

// Text stores a string as an object with one word for each byte; the empty string is the reference 0.
func (h *Heap) Text(s string) (uint64, bool) {
	if s == "" {
		return 0, true
	}
	ref, ok := h.Alloc(api.Text, len(s))
	if !ok {
		return 0, false
	}
	spell(s, ref, h.Set)
	return ref, true
}

// String returns the string of a text.
func (h *Heap) String(ref uint64) string {
	// A word that is no head may name any length: the heap's own bounds the answer.
	return read(ref, min(h.Len(ref), h.Used()), h.Get)
}

// spell sets the words of an object to the bytes of s.
func spell(s string, ref uint64, set func(ref uint64, i int, v uint64) bool) {
	for i := range len(s) {
		set(ref, i, uint64(s[i]))
	}
}

// read returns the first n words of an object as bytes.
func read(ref uint64, n int, get func(ref uint64, i int) uint64) string {
	l := make([]byte, n)
	for i := range l {
		l[i] = byte(get(ref, i))
	}
	return string(l)
}
