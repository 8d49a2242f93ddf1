package world_test

import (
	"strings"
	"testing"

	"turnstone/api"
	"turnstone/world"
)

// wantCat puts two texts together, which must give the reference want of the text s.
func wantCat(t *testing.T, w *world.World, a, b uint64, want uint64, s string) {
	t.Helper()
	ref, ok := w.Cat(a, b)
	wantRef(t, w, ref, ok, want, api.Text, len(s))
	if got := w.Heap().String(ref); got != s {
		t.Fatalf("Cat(%d, %d): %q, want %q", a, b, got, s)
	}
}

// 10.3: texts put together, also with an empty one, always anew.
func TestCat(t *testing.T) {
	w := made(t, 60, "ab", "c\xff\x00")
	wantCat(t, w, 1, 4, 8, "abc\xff\x00")
	wantCat(t, w, 4, 1, 14, "c\xff\x00ab")
	wantCat(t, w, 1, 1, 20, "abab")
	wantCat(t, w, 0, 1, 25, "ab")
	wantCat(t, w, 1, 0, 28, "ab")
	wantCat(t, w, 20, 25, 31, "ababab")
	if h := w.Heap(); h.String(1) != "ab" || h.String(4) != "c\xff\x00" || h.String(8) != "abc\xff\x00" {
		t.Error("a text was changed")
	}
}

// 10.3: an empty text is 0, and takes no room.
func TestCatEmpty(t *testing.T) {
	w := made(t, 1)
	for _, ref := range []uint64{0, 1, 5, 1 << 32, far} {
		if got, ok := w.Cat(ref, 0); got != 0 || !ok {
			t.Errorf("Cat(%d, 0): %d %v", ref, got, ok)
		}
		if got, ok := w.Cat(0, ref); got != 0 || !ok {
			t.Errorf("Cat(0, %d): %d %v", ref, got, ok)
		}
	}
	wantWords(t, w, 0)
	w = made(t, 2)
	w.Slice(api.Text, 0) // a text of no bytes that has a head of its own
	if got, ok := w.Cat(1, 1); got != 0 || !ok {
		t.Errorf("%d %v", got, ok)
	}
	wantWords(t, w, 0, api.Text<<32)
}

// 10.3: the bytes of words above 255, and of words that are no reference of a text.
func TestCatOdd(t *testing.T) {
	w := made(t, 60, "abc")
	w.Slice(list, 2)
	w.Heap().Put(6, 256+'x')
	w.Heap().Put(7, far)
	w.Heap().Put(3, 1)
	wantCat(t, w, 5, 3, 8, "x\xffc")
	if h := w.Heap(); h.Get(8, 0) != 'x' || h.Get(8, 1) != 0xff {
		t.Errorf("words that are no bytes: %v", h.Words())
	}
	wantCat(t, w, 100, 5, 12, "x\xff")
}

// 10.3: MaxLen bytes together, and one more, wherever they come from.
func TestCatLen(t *testing.T) {
	for _, n := range []int{0, 1, 2, api.MaxLen / 2, api.MaxLen - 1, api.MaxLen} {
		a, b := strings.Repeat("x", n), strings.Repeat("y", api.MaxLen-n)
		w := made(t, api.MaxHeap, a, b, "z", a+"z", b+"z")
		next := uint64(w.Heap().Used())
		for _, l := range [][2]int{{3, 1}, {1, 3}, {0, 4}, {4, 0}} {
			wantNone(t, w, func() (uint64, bool) { return w.Cat(w.Lit(l[0]), w.Lit(l[1])) })
		}
		wantCat(t, w, w.Lit(0), w.Lit(1), next, a+b)
		wantCat(t, w, w.Lit(1), w.Lit(0), next+api.MaxLen+1, b+a)
		wantNone(t, w, func() (uint64, bool) { return w.Cat(next, w.Lit(2)) })
		wantNone(t, w, func() (uint64, bool) { return w.Cat(w.Lit(2), next) })
		wantNone(t, w, func() (uint64, bool) { return w.Cat(next, next) })
	}
}

// 10.3: a text for which there is just room, and one for which a word is missing; the heap is then as it was.
func TestCatRoom(t *testing.T) {
	w := made(t, 9, "ab", "c")
	wantNone(t, w, func() (uint64, bool) { return w.Cat(1, 1) })
	wantNone(t, w, func() (uint64, bool) { return w.Cat(1, 4) })
	wantCat(t, w, 4, 4, 6, "cc")
	wantNone(t, w, func() (uint64, bool) { return w.Cat(4, 0) })
	if ref, ok := w.Cat(0, 0); ref != 0 || !ok {
		t.Error("the empty text where there is no room")
	}
	w = made(t, 10, "ab", "c")
	wantCat(t, w, 1, 4, 6, "abc")
	wantNone(t, w, func() (uint64, bool) { return w.Cat(0, 4) })
	full := made(t, api.MaxLen+2, strings.Repeat("x", api.MaxLen))
	wantNone(t, full, func() (uint64, bool) { return full.Cat(1, 0) })
	wantNone(t, full, func() (uint64, bool) { return full.Cat(1, 1) })
}

// ordered are texts from the least to the greatest.
func ordered() []string {
	return []string{"", "\x00", "\x00\x00", "\x00a", "\x01", "A", "B", "a", "a\x00", "a\x00b", "aa", "aaa", "ab", "a\x7f", "a\x80", "a\xff",
		"b", "ba", "é", "\xc3\xaa", "\xff", "\xff\x00", "\xff\xff", strings.Repeat("\xff", 300), strings.Repeat("\xff", 301)}
}

// 10.3: Equal and Less of all pairs, among them texts of which one begins the other, empty ones and bytes above 127.
func TestEqualLess(t *testing.T) {
	l := ordered()
	w := made(t, api.MaxHeap, append(l, l...)...) // each of them twice
	for i := range l {
		for j := range l {
			for _, a := range []uint64{w.Lit(i), w.Lit(i + len(l))} {
				b := w.Lit(j)
				if w.Equal(a, b) != (i == j) || w.Equal(b, a) != (i == j) {
					t.Errorf("Equal(%q, %q): %v", l[i], l[j], w.Equal(a, b))
				}
				if w.Less(a, b) != (i < j) || w.Less(b, a) != (j < i) {
					t.Errorf("Less(%q, %q): %v", l[i], l[j], w.Less(a, b))
				}
			}
		}
	}
}

// 10.3: words that are no reference of a text are compared as texts.
func TestCompareOdd(t *testing.T) {
	w := made(t, 30, "abc", "c")
	w.Slice(list, 1)
	w.Heap().Put(8, 256+'c')
	w.Heap().Put(3, 1)
	for _, none := range []uint64{9, 30, 1 << 32, 1<<32 + 1, 1 << 63, far} {
		if !w.Equal(none, 0) || !w.Equal(0, none) || w.Less(none, 0) || w.Less(0, none) || !w.Less(none, 1) || w.Less(1, none) || w.Equal(1, none) {
			t.Errorf("the reference %d", none)
		}
	}
	// A word that is the head of a text, one of another type, and one that is no head.
	for _, a := range []uint64{5, 7, 3} {
		for _, b := range []uint64{5, 7, 3} {
			if !w.Equal(a, b) || w.Less(a, b) {
				t.Errorf("%d and %d", a, b)
			}
		}
	}
	if !w.Less(1, 5) || w.Equal(1, 5) {
		t.Error("a text beside them")
	}
}

// 10.3, R2: comparing and printing leave the heap as it was.
func TestCompareLeaves(t *testing.T) {
	w := made(t, 20, "ab", "b")
	before := w.Heap().Words()
	w.Equal(1, 4)
	w.Less(1, 4)
	w.Print(api.Text, 1)
	wantWords(t, w, before...)
}
