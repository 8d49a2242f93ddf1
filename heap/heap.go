// Package heap: objects as words: see DOC.md, chapter 1.
package heap

import (
	"turnstone/api"
)

const (
	maxPart  = 1 << 20 // the greatest type of an object, and the greatest number of its words behind the head
	typeBits = 32      // a head's type stands above so many bits, which hold the number of the other words
)

// Heap is a sequence of words, one object behind the other; word 0 is always there, and no object's.
type Heap struct {
	words []uint64
	room  int
}

// New returns a Heap of word 0 alone, which may grow to room words.
func New(room int) (*Heap, api.Errno) {
	if room < 1 || room > api.MaxHeap {
		return nil, api.ErrArg
	}
	return &Heap{words: make([]uint64, 1), room: room}, api.OK
}

// Alloc appends an object of the type t with n words that are 0, and returns its reference.
func (h *Heap) Alloc(t, n int) (uint64, bool) {
	// The head takes one of the free words, so n must be below their number.
	if !isPart(t) || !isPart(n) || n >= h.room-h.Used() {
		return 0, false
	}
	ref := uint64(h.Used())
	h.words = append(h.words, make([]uint64, n+1)...)
	h.words[ref] = head(t, n)
	return ref, true
}

func isPart(n int) bool {
	return n >= 0 && n <= maxPart
}

func head(t, n int) uint64 {
	return uint64(t)<<typeBits + uint64(n)
}

// Type returns the type in the word ref, read as a head, or 0 if ref does not exist.
func (h *Heap) Type(ref uint64) int {
	return int(h.Word(ref) >> typeBits)
}

// Len returns the number of words in the word ref, read as a head, or 0 if ref does not exist.
func (h *Heap) Len(ref uint64) int {
	return int(h.Word(ref) & (1<<typeBits - 1))
}

// Get returns the word i of an object, or 0 if there is none.
func (h *Heap) Get(ref uint64, i int) uint64 {
	return h.Word(h.place(ref, i))
}

// Set sets the word i of an object, and tells whether there is one.
func (h *Heap) Set(ref uint64, i int, v uint64) bool {
	return h.Put(h.place(ref, i), v)
}

// place returns the number that the word i of an object has, or 0 if the object has no word i.
// 0 serves as none because Word reads it as 0 and Put refuses it. Both see to numbers behind the last word,
// to which a word that is no head may lead.
func (h *Heap) place(ref uint64, i int) uint64 {
	if i < 0 || i >= h.Len(ref) {
		return 0
	}
	return ref + 1 + uint64(i)
}

// Word returns the word with the number at, or 0 if there is none.
func (h *Heap) Word(at uint64) uint64 {
	if at >= uint64(len(h.words)) {
		return 0
	}
	return h.words[at]
}

// Put sets the word with the number at, and tells whether it may be set.
func (h *Heap) Put(at, v uint64) bool {
	if at == 0 || at >= uint64(len(h.words)) {
		return false
	}
	h.words[at] = v
	return true
}

// Used returns the number of words.
func (h *Heap) Used() int {
	return len(h.words)
}

// Words returns all words, in memory of the caller's own.
func (h *Heap) Words() []uint64 {
	l := make([]uint64, len(h.words))
	copy(l, h.words)
	return l
}

// Copy returns an independent Heap with the same room and the same words.
func (h *Heap) Copy() *Heap {
	return &Heap{words: h.Words(), room: h.room}
}
