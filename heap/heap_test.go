package heap_test

import (
	"math"
	"slices"
	"testing"

	"turnstone/api"
	"turnstone/heap"
)

const (
	most = 1 << 20   // the limit of a type, and of an object's words
	far  = 1<<64 - 1 // the greatest reference there could be
)

func newHeap(t *testing.T, room int) *heap.Heap {
	t.Helper()
	h, e := heap.New(room)
	if e != api.OK || h == nil {
		t.Fatalf("New(%d): %v, error %d", room, h, e)
	}
	return h
}

// wantAlloc asks for an object that must get the reference want.
func wantAlloc(t *testing.T, h *heap.Heap, kind, n int, want uint64) {
	t.Helper()
	if ref, ok := h.Alloc(kind, n); ref != want || !ok {
		t.Fatalf("Alloc(%d, %d): %d %v, want %d true", kind, n, ref, ok, want)
	}
}

// wantNoAlloc asks for an object that must be refused without a trace.
func wantNoAlloc(t *testing.T, h *heap.Heap, kind, n int) {
	t.Helper()
	before := h.Words()
	if ref, ok := h.Alloc(kind, n); ref != 0 || ok {
		t.Fatalf("Alloc(%d, %d): %d %v, want 0 false", kind, n, ref, ok)
	}
	wantWords(t, h, before...)
}

func wantWords(t *testing.T, h *heap.Heap, want ...uint64) {
	t.Helper()
	if got := h.Words(); !slices.Equal(got, want) {
		t.Fatalf("Words: %v, want %v", got, want)
	}
	if h.Used() != len(want) {
		t.Fatalf("Used: %d, want %d", h.Used(), len(want))
	}
}

// 1.1: New at both ends of the room's range and beyond them.
func TestNew(t *testing.T) {
	for _, room := range []int{1, 2, 9, api.MaxHeap - 1, api.MaxHeap} {
		wantWords(t, newHeap(t, room), 0)
	}
	for _, room := range []int{math.MinInt, -1, 0, api.MaxHeap + 1, math.MaxInt} {
		if h, e := heap.New(room); h != nil || e != api.ErrArg {
			t.Errorf("New(%d): %v, error %d, want nil and ErrArg", room, h, e)
		}
	}
}

// 1.1: the chapter's example.
func TestExample(t *testing.T) {
	h := newHeap(t, 9)
	wantAlloc(t, h, 5, 2, 1)
	wantAlloc(t, h, 6, 4, 4)
	wantNoAlloc(t, h, 6, 5)
	wantWords(t, h, 0, 5<<32+2, 0, 0, 6<<32+4, 0, 0, 0, 0)
}

// 1.1: an object takes n + 1 words, and not one more than there is room for.
func TestAllocRoom(t *testing.T) {
	for room := 1; room <= 8; room++ {
		for n := 0; n <= 9; n++ {
			h := newHeap(t, room)
			if n+1 > room-1 {
				wantNoAlloc(t, h, 5, n)
				continue
			}
			wantAlloc(t, h, 5, n, 1)
			if h.Used() != n+2 {
				t.Errorf("room %d, n %d: %d words", room, n, h.Used())
			}
			if n+2 == room {
				wantNoAlloc(t, h, 0, 0)
			}
		}
	}
}

// 1.1: a refused object leaves its room to a smaller one.
func TestAllocAfterRefusal(t *testing.T) {
	h := newHeap(t, 5)
	wantNoAlloc(t, h, 5, 4)
	wantAlloc(t, h, 5, 2, 1)
	wantNoAlloc(t, h, 5, 1)
	wantAlloc(t, h, 5, 0, 4)
	wantNoAlloc(t, h, 5, 0)
}

// 1.1: the range of t, and that of n as far as a heap has room for it.
func TestAllocRanges(t *testing.T) {
	h := newHeap(t, api.MaxHeap)
	wantAlloc(t, h, 0, 0, 1)
	wantAlloc(t, h, most, 0, 2)
	wantWords(t, h, 0, 0, most<<32)
	for _, bad := range []int{math.MinInt, math.MinInt32, -1, most + 1, 1 << 32, math.MaxInt} {
		wantNoAlloc(t, h, bad, 0)
		wantNoAlloc(t, h, 0, bad)
		wantNoAlloc(t, h, bad, bad)
	}
	wantNoAlloc(t, h, 0, most)
	wantNoAlloc(t, h, 0, api.MaxHeap-3)
	wantAlloc(t, h, 7, api.MaxHeap-4, 3)
	if h.Used() != api.MaxHeap || h.Len(3) != api.MaxHeap-4 {
		t.Errorf("the greatest object: %d words, of %d", h.Len(3), h.Used())
	}
	wantNoAlloc(t, h, 0, 0)
}

// 1.1: an object's words are 0, whatever was written before it was there.
func TestAllocZero(t *testing.T) {
	h := newHeap(t, 200)
	for n := range 15 {
		ref, ok := h.Alloc(5, n)
		if !ok {
			t.Fatalf("no object of %d words", n)
		}
		for i := range n {
			if v := h.Get(ref, i); v != 0 {
				t.Errorf("word %d of a new object: %d", i, v)
			}
			h.Set(ref, i, far)
		}
		spare := h.Words()
		for range n + 2 {
			spare = append(spare, far)
		}
	}
}

// 1.1, R2: what Words returns is the caller's own.
func TestWordsOwn(t *testing.T) {
	h := newHeap(t, 20)
	wantAlloc(t, h, 5, 2, 1)
	a, b := h.Words(), h.Words()
	for i := range a {
		a[i] = 99
	}
	wantWords(t, h, 0, 5<<32+2, 0, 0)
	if !slices.Equal(b, []uint64{0, 5<<32 + 2, 0, 0}) {
		t.Errorf("two answers share memory: %v", b)
	}
	for i := range a[:cap(a)] {
		a[:cap(a)][i] = 98
	}
	wantAlloc(t, h, 6, 1, 4)
	wantWords(t, h, 0, 5<<32+2, 0, 0, 6<<32+1, 0)
	h.Set(1, 0, 7)
	if b[2] != 0 {
		t.Error("an earlier answer follows the heap")
	}
}

// 1.1: a copy and its original are independent, both ways, and have the same room.
func TestCopy(t *testing.T) {
	h := newHeap(t, 9)
	wantAlloc(t, h, 5, 2, 1)
	h.Set(1, 0, 70)
	c := h.Copy()
	wantWords(t, c, 0, 5<<32+2, 70, 0)
	c.Set(1, 1, 71)
	h.Set(1, 0, 72)
	wantAlloc(t, c, 6, 1, 4)
	c.Set(4, 0, 73)
	wantAlloc(t, h, 7, 0, 4)
	wantWords(t, h, 0, 5<<32+2, 72, 0, 7<<32)
	wantWords(t, c, 0, 5<<32+2, 70, 71, 6<<32+1, 73)
	wantNoAlloc(t, c, 0, 3)
	wantAlloc(t, c, 0, 2, 6)
	wantNoAlloc(t, h, 0, 4)
	wantAlloc(t, h, 0, 3, 5)
}

// 1.1, R7: two heaps know nothing of each other.
func TestIndependent(t *testing.T) {
	a, b := newHeap(t, 9), newHeap(t, 4)
	wantAlloc(t, a, 5, 2, 1)
	wantWords(t, b, 0)
	wantAlloc(t, b, 6, 2, 1)
	b.Set(1, 0, 9)
	wantWords(t, a, 0, 5<<32+2, 0, 0)
}

// 1.2: Type and Len read the two halves of a head.
func TestTypeLen(t *testing.T) {
	h := newHeap(t, 20)
	wantAlloc(t, h, 5, 2, 1)
	wantAlloc(t, h, most, 0, 4)
	h.Put(2, far)
	for _, c := range []struct {
		ref       uint64
		kind, len int
	}{
		{1, 5, 2}, {4, most, 0},
		{2, 1<<32 - 1, 1<<32 - 1}, {3, 0, 0}, // no heads
		{0, 0, 0}, {5, 0, 0}, {1 << 32, 0, 0}, {1<<32 + 1, 0, 0}, {1 << 63, 0, 0}, {far, 0, 0},
	} {
		if k, n := h.Type(c.ref), h.Len(c.ref); k != c.kind || n != c.len {
			t.Errorf("reference %d: type %d, length %d, want %d and %d", c.ref, k, n, c.kind, c.len)
		}
	}
}

// 1.2: Get and Set at both ends of an object, and beyond them.
func TestGetSet(t *testing.T) {
	h := newHeap(t, 20)
	wantAlloc(t, h, 5, 3, 1)
	wantAlloc(t, h, 6, 1, 5)
	for i := range 3 {
		if !h.Set(1, i, uint64(10+i)) || h.Get(1, i) != uint64(10+i) {
			t.Errorf("word %d: %d", i, h.Get(1, i))
		}
	}
	if !h.Set(5, 0, far) || h.Get(5, 0) != far {
		t.Errorf("the last word: %d", h.Get(5, 0))
	}
	want := h.Words()
	if !slices.Equal(want, []uint64{0, 5<<32 + 3, 10, 11, 12, 6<<32 + 1, far}) {
		t.Errorf("Words: %v", want)
	}
	for _, c := range []struct {
		ref uint64
		i   int
	}{
		{1, -1}, {1, 3}, {1, math.MinInt}, {1, math.MaxInt}, {1, 1 << 32}, {5, 1}, {5, -1},
		{0, 0}, {0, 1}, {0, -1}, {7, 0}, {7, -1}, {1 << 32, 0}, {1<<32 + 1, 0}, {far, 0}, {far, -1}, {far, 1}, {far, 2},
	} {
		if v := h.Get(c.ref, c.i); v != 0 {
			t.Errorf("Get(%d, %d): %d", c.ref, c.i, v)
		}
		if h.Set(c.ref, c.i, 9) {
			t.Errorf("Set(%d, %d) is true", c.ref, c.i)
		}
	}
	wantWords(t, h, want...)
}

// 1.2: a word that is no head is read as one, and never leads out of the heap.
func TestNoHead(t *testing.T) {
	h := newHeap(t, 20)
	wantAlloc(t, h, 5, 3, 1)
	h.Set(1, 0, 8<<32+9)
	h.Set(1, 1, 1)
	h.Set(1, 2, 44)
	if h.Type(2) != 8 || h.Len(2) != 9 || h.Get(2, 0) != 1 || h.Get(2, 1) != 44 || h.Get(3, 0) != 44 {
		t.Errorf("reads: %d %d %d %d %d", h.Type(2), h.Len(2), h.Get(2, 0), h.Get(2, 1), h.Get(3, 0))
	}
	for _, i := range []int{2, 8, 9} {
		if h.Get(2, i) != 0 || h.Set(2, i, 5) {
			t.Errorf("word %d stands behind the last one", i)
		}
	}
	if h.Get(3, 1) != 0 || h.Set(3, 1, 5) || h.Get(4, 44) != 0 || h.Get(4, 0) != 0 || h.Set(4, 0, 5) {
		t.Error("words 3 and 4")
	}
	if !h.Set(2, 1, 45) || h.Word(4) != 45 {
		t.Errorf("word 4: %d", h.Word(4))
	}
	h.Put(2, far)
	if h.Get(2, 1<<32-2) != 0 || h.Set(2, 1<<32-2, 5) || h.Get(2, 1<<32-1) != 0 || h.Get(2, 1) != 45 {
		t.Error("a length beyond all heaps")
	}
	wantWords(t, h, 0, 5<<32+3, far, 1, 45)
}

// 1.2: Word and Put reach every word, but Put not word 0.
func TestWordPut(t *testing.T) {
	h := newHeap(t, 20)
	if h.Put(0, 1) || h.Put(1, 1) || h.Word(1) != 0 {
		t.Error("a heap of word 0 alone")
	}
	wantAlloc(t, h, 5, 2, 1)
	for at := uint64(1); at < 4; at++ {
		if !h.Put(at, at<<60+at) || h.Word(at) != at<<60+at {
			t.Errorf("word %d: %d", at, h.Word(at))
		}
	}
	want := []uint64{0, 1<<60 + 1, 2<<60 + 2, 3<<60 + 3}
	for _, at := range []uint64{0, 4, 5, 19, 20, 1 << 32, 1<<32 + 1, 1 << 63, 1<<63 + 1, far} {
		if h.Put(at, 9) {
			t.Errorf("Put at %d is true", at)
		}
		if v := h.Word(at); v != 0 {
			t.Errorf("Word %d: %d", at, v)
		}
	}
	wantWords(t, h, want...)
	h.Put(1, 6<<32+1)
	if h.Type(1) != 6 || h.Len(1) != 1 || h.Get(1, 1) != 0 || h.Get(1, 0) != 2<<60+2 {
		t.Error("a head that Put has set")
	}
}
