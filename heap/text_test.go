package heap_test

import (
	"strings"
	"testing"

	"turnstone/api"
	"turnstone/heap"
)

// wantText stores a string, which must get the reference want.
func wantText(t *testing.T, h *heap.Heap, s string, want uint64) {
	t.Helper()
	if ref, ok := h.Text(s); ref != want || !ok {
		t.Fatalf("Text(%q): %d %v, want %d true", s, ref, ok, want)
	}
}

// wantNoText stores a string that must be refused without a trace.
func wantNoText(t *testing.T, h *heap.Heap, s string) {
	t.Helper()
	before := h.Words()
	if ref, ok := h.Text(s); ref != 0 || ok {
		t.Fatalf("Text of %d bytes: %d %v, want 0 false", len(s), ref, ok)
	}
	wantWords(t, h, before...)
}

func wantString(t *testing.T, h *heap.Heap, ref uint64, want string) {
	t.Helper()
	if s := h.String(ref); s != want {
		t.Errorf("String(%d): %q, want %q", ref, s, want)
	}
}

// 1.3: a text is an object of the type api.Text with a word for each byte.
func TestText(t *testing.T) {
	h := newHeap(t, 20)
	wantText(t, h, "ab", 1)
	wantText(t, h, "\x00", 4)
	wantText(t, h, "é\xff", 6)
	wantWords(t, h, 0, api.Text<<32+2, 'a', 'b', api.Text<<32+1, 0, api.Text<<32+3, 0xc3, 0xa9, 0xff)
	wantString(t, h, 1, "ab")
	wantString(t, h, 4, "\x00")
	wantString(t, h, 6, "é\xff")
}

// 1.3: every byte comes back, those above 127 too.
func TestTextBytes(t *testing.T) {
	all := make([]byte, 256)
	for i := range all {
		all[i] = byte(i)
	}
	h := newHeap(t, 300)
	wantText(t, h, string(all), 1)
	wantString(t, h, 1, string(all))
}

// 1.3: the empty text is the reference 0, for which no room is needed.
func TestTextEmpty(t *testing.T) {
	h := newHeap(t, 1)
	wantText(t, h, "", 0)
	wantWords(t, h, 0)
	wantString(t, h, 0, "")
	wantNoText(t, h, "a")
}

// 1.3: a text that leaves no word over, and one that needs a word more than there are.
func TestTextRoom(t *testing.T) {
	h := newHeap(t, 5)
	wantNoText(t, h, "abcd")
	wantText(t, h, "abc", 1)
	wantNoText(t, h, "a")
	wantText(t, h, "", 0)
	h = newHeap(t, api.MaxHeap)
	wantNoText(t, h, strings.Repeat("x", most+1))
	wantNoText(t, h, strings.Repeat("x", api.MaxHeap-1))
	longest := strings.Repeat("xy", api.MaxHeap/2-1)
	wantText(t, h, longest, 1)
	wantString(t, h, 1, longest)
}

// 1.3: a word is a byte modulo 256, and the object's type does not matter.
func TestStringModulo(t *testing.T) {
	h := newHeap(t, 20)
	wantAlloc(t, h, api.Slice, 3, 1)
	h.Set(1, 0, 256+'z')
	h.Set(1, 1, far)
	h.Set(1, 2, 1<<63)
	wantString(t, h, 1, "z\xff\x00")
}

// 1.3: references that do not exist, or are not the number of a head.
func TestStringWrong(t *testing.T) {
	h := newHeap(t, 20)
	wantText(t, h, "abcd", 1)
	for _, ref := range []uint64{0, 6, 7, 1 << 32, 1<<32 + 1, 1 << 63, far} {
		wantString(t, h, ref, "")
	}
	h.Put(2, 2)
	wantString(t, h, 2, "bc")
	// There are Len(ref) bytes; where there is no word, the byte is 0, as Get answers.
	h.Put(3, 4)
	wantString(t, h, 3, "cd\x00\x00")
	// But there are never more of them than the heap has words, which are six.
	for _, v := range []uint64{6, 7, 1<<32 - 1, far} {
		h.Put(3, v)
		wantString(t, h, 3, "cd\x00\x00\x00\x00")
	}
}
