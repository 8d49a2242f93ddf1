package world_test

import (
	"math"
	"slices"
	"strings"
	"testing"

	"turnstone/api"
	"turnstone/heap"
	"turnstone/kinds"
	"turnstone/world"
)

const (
	most = 1 << 20   // the greatest type of an object
	far  = 1<<64 - 1 // the greatest reference there could be
)

// The types of prog behind those of the base.
const (
	empty = 5 + iota
	pair
	wide
	list
	face
	none // the first number that is no type
)

// prog returns a program with these texts.
func prog(texts ...string) api.Prog {
	l := append(kinds.Base(),
		api.Type{Kind: api.Struct, Name: "Empty"},
		api.Type{Kind: api.Struct, Name: "Pair", Fields: []api.Field{{Name: "a", Type: api.Int}, {Name: "b", Type: pair}}},
		api.Type{Kind: api.Struct, Name: "Wide", Fields: make([]api.Field, api.MaxFields)},
		api.Type{Kind: api.Slice, Elem: pair},
		api.Type{Kind: api.Face, Name: "Face", Methods: []api.Method{{Name: "m", Func: -1}}},
	)
	return api.Prog{Types: l, Texts: texts}
}

// made returns a World that there must be.
func made(t *testing.T, room int, texts ...string) *world.World {
	t.Helper()
	w, ok := world.New(prog(texts...), room, nil)
	if !ok || w == nil {
		t.Fatalf("New in %d words: %v %v", room, w, ok)
	}
	return w
}

func wantWords(t *testing.T, w *world.World, want ...uint64) {
	t.Helper()
	if got := w.Heap().Words(); !slices.Equal(got, want) {
		t.Fatalf("the heap: %v, want %v", got, want)
	}
}

// wantRef holds what a call has allocated against what it must be.
func wantRef(t *testing.T, w *world.World, ref uint64, ok bool, want uint64, kind, n int) {
	t.Helper()
	h := w.Heap()
	if !ok || ref != want || h.Type(ref) != kind || h.Len(ref) != n {
		t.Fatalf("%d %v, of type %d with %d words, want %d true, %d, %d", ref, ok, h.Type(ref), h.Len(ref), want, kind, n)
	}
}

// wantNone makes a call that must be refused without a trace.
func wantNone(t *testing.T, w *world.World, call func() (uint64, bool)) {
	t.Helper()
	before := w.Heap().Words()
	if ref, ok := call(); ref != 0 || ok {
		t.Fatalf("%d %v, want 0 false", ref, ok)
	}
	wantWords(t, w, before...)
}

// wantRoom takes all the room that is left, which must be just so many words.
func wantRoom(t *testing.T, h *heap.Heap, left int) {
	t.Helper()
	if _, ok := h.Alloc(0, left); ok {
		t.Fatalf("there is room for more than %d words", left)
	}
	if left == 0 {
		return
	}
	if _, ok := h.Alloc(0, left-1); !ok {
		t.Fatalf("there is no room for %d words", left)
	}
}

// 10.1: the chapter's example.
func TestExample(t *testing.T) {
	w := made(t, 20, "a", "ab")
	if w.Lit(0) != 1 || w.Lit(1) != 3 || w.Heap().Used() != 6 {
		t.Errorf("%d, %d, %d words", w.Lit(0), w.Lit(1), w.Heap().Used())
	}
	wantWords(t, w, 0, api.Text<<32+1, 'a', api.Text<<32+2, 'a', 'b')
	wantRoom(t, w.Heap(), 14)
}

// 10.1: the room is limited to the range 1 to MaxHeap.
func TestRoom(t *testing.T) {
	for _, c := range []struct{ room, words int }{
		{math.MinInt, 1}, {-5, 1}, {-1, 1}, {0, 1}, {1, 1}, {2, 2}, {3, 3}, {20, 20},
		{api.MaxHeap - 1, api.MaxHeap - 1}, {api.MaxHeap, api.MaxHeap},
		{api.MaxHeap + 1, api.MaxHeap}, {1 << 32, api.MaxHeap}, {1<<32 + 5, api.MaxHeap}, {math.MaxInt, api.MaxHeap},
	} {
		w := made(t, c.room)
		wantWords(t, w, 0)
		wantRoom(t, w.Heap(), c.words-1)
		wantWords(t, made(t, c.room, "", ""), 0)
	}
}

// 10.1: the room that the texts take, and one that is a word too small for them.
func TestTextsRoom(t *testing.T) {
	for _, c := range []struct {
		texts []string
		words int
	}{
		{[]string{"a"}, 3},
		{[]string{"abc"}, 5},
		{[]string{"", "abc", ""}, 5},
		{[]string{"a", "ab"}, 6},
		{[]string{"ab", "a", "ab"}, 9},
		{[]string{strings.Repeat("x", api.MaxHeap-2)}, api.MaxHeap},
		{[]string{strings.Repeat("x", api.MaxHeap-5), "y"}, api.MaxHeap - 1},
	} {
		w := made(t, c.words, c.texts...)
		if w.Heap().Used() != c.words {
			t.Errorf("%d words, want %d", w.Heap().Used(), c.words)
		}
		wantRoom(t, w.Heap(), 0)
		for _, room := range []int{math.MinInt, -1, 0, 1, c.words - 1} {
			if w, ok := world.New(prog(c.texts...), room, []int64{1}); w != nil || ok {
				t.Errorf("%d words in the room %d: %v %v", c.words, room, w, ok)
			}
		}
	}
	for _, n := range []int{api.MaxHeap - 1, most, most + 1} {
		for _, room := range []int{api.MaxHeap, math.MaxInt} {
			if w, ok := world.New(prog(strings.Repeat("x", n)), room, nil); w != nil || ok {
				t.Errorf("a text of %d bytes: %v %v", n, w, ok)
			}
		}
	}
}

// 10.1: nothing is printed yet, and no input taken.
func TestNewState(t *testing.T) {
	w, ok := world.New(prog("a"), 20, []int64{3, 4})
	if !ok || len(w.Trace()) != 0 || w.Taken() != 0 || w.Full() {
		t.Errorf("%v %v, %d, %v", ok, w.Trace(), w.Taken(), w.Full())
	}
	if w.Input() != 3 {
		t.Error("the first input")
	}
}

// 10.1: a program of nothing at all.
func TestNewEmpty(t *testing.T) {
	w, ok := world.New(api.Prog{}, 4, nil)
	if !ok {
		t.Fatal("no World")
	}
	wantWords(t, w, 0)
	if w.Lit(0) != 0 || w.Input() != 0 || w.Taken() != 0 {
		t.Error("something in it")
	}
	ref, ok := w.Object(api.Struct)
	wantRef(t, w, ref, ok, 1, api.Struct, 0)
}

// 10.1: the references of the texts in their order, of the same one twice, of empty ones, and of none.
func TestLit(t *testing.T) {
	w := made(t, 40, "a", "", "ab", "a", "\x00\xff\x80é", "")
	wantWords(t, w, 0,
		api.Text<<32+1, 'a',
		api.Text<<32+2, 'a', 'b',
		api.Text<<32+1, 'a',
		api.Text<<32+5, 0, 0xff, 0x80, 0xc3, 0xa9)
	for k, want := range []uint64{1, 0, 3, 6, 8, 0} {
		if got := w.Lit(k); got != want {
			t.Errorf("text %d: %d, want %d", k, got, want)
		}
	}
	for _, k := range []int{math.MinInt, -6, -1, 6, 7, 1 << 32, math.MaxInt} {
		if got := w.Lit(k); got != 0 {
			t.Errorf("text %d: %d", k, got)
		}
	}
	if w.Heap().String(w.Lit(4)) != "\x00\xff\x80é" {
		t.Error("the bytes of a text")
	}
}

// 10.1: Heap is the heap itself, each time the same.
func TestHeap(t *testing.T) {
	w := made(t, 20, "ab")
	h := w.Heap()
	if h != w.Heap() {
		t.Fatal("another heap")
	}
	h.Put(2, 'z')
	w.Print(api.Text, 1)
	ref, ok := h.Alloc(9, 1)
	if l := w.Trace(); !ok || ref != 4 || !slices.Equal(l, []string{"zb"}) {
		t.Errorf("%d %v %q", ref, ok, l)
	}
	ref, ok = w.Object(empty)
	wantRef(t, w, ref, ok, 6, empty, 0)
}

// 10.1, R2: the program and the inputs stay as they are, and turning them later turns nothing.
func TestArguments(t *testing.T) {
	p := prog("a", "ab")
	kept := prog("a", "ab")
	inputs := []int64{1, 2, 3, 99}
	w, ok := world.New(p, 30, inputs[:3])
	if !ok {
		t.Fatal("no World")
	}
	for range 5 {
		w.Input()
	}
	w, _ = world.New(p, 30, inputs[:3])
	if !slices.Equal(inputs, []int64{1, 2, 3, 99}) || !slices.Equal(p.Texts, kept.Texts) || !slices.EqualFunc(p.Types, kept.Types, kinds.Same) {
		t.Fatal("an argument was changed")
	}
	inputs[0], inputs[1], inputs[2] = -1, -2, -3
	p.Texts[0] = "zz"
	p.Types[pair].Fields = nil
	p.Types[list] = p.Types[wide]
	if w.Input() != 1 || w.Input() != 2 || w.Input() != 3 || w.Input() != 0 || w.Heap().String(w.Lit(0)) != "a" {
		t.Error("an argument was kept")
	}
	ref, ok := w.Object(pair)
	wantRef(t, w, ref, ok, 6, pair, 2)
	ref, ok = w.Object(list)
	wantRef(t, w, ref, ok, 9, list, 0)
}

// 10.3: objects of types with and without fields, and of numbers that are no type.
func TestObject(t *testing.T) {
	w := made(t, 60)
	at := uint64(1)
	for _, c := range []struct{ kind, n int }{
		{empty, 0}, {pair, 2}, {wide, api.MaxFields}, {pair, 2}, {list, 0}, {face, 0},
		{api.Void, 0}, {api.Int, 0}, {api.Bool, 0}, {api.Text, 0}, {api.Nil, 0},
		{none, 0}, {none + 1, 0}, {most, 0},
	} {
		ref, ok := w.Object(c.kind)
		wantRef(t, w, ref, ok, at, c.kind, c.n)
		for i := range c.n {
			if v := w.Heap().Get(ref, i); v != 0 {
				t.Errorf("field %d of a new object: %d", i, v)
			}
			w.Heap().Set(ref, i, far)
		}
		at += uint64(c.n) + 1
	}
	for _, kind := range []int{math.MinInt, -pair, -1, most + 1, 1<<32 + pair, math.MaxInt} {
		wantNone(t, w, func() (uint64, bool) { return w.Object(kind) })
	}
}

// 10.3: the words are as many as the fields, whatever the kind is.
func TestObjectOddTypes(t *testing.T) {
	l := make([]api.Type, 8)
	for kind := range l {
		l[kind] = api.Type{Kind: kind, Fields: make([]api.Field, kind)}
	}
	w, ok := world.New(api.Prog{Types: l}, 60, nil)
	at := uint64(1)
	for kind := range l {
		ref, good := w.Object(kind)
		wantRef(t, w, ref, ok && good, at, kind, kind)
		at += uint64(kind) + 1
	}
}

// 10.3: an object for which there is just room, and one for which a word is missing.
func TestObjectRoom(t *testing.T) {
	w := made(t, 6, "a")
	wantNone(t, w, func() (uint64, bool) { return w.Object(wide) })
	ref, ok := w.Object(pair)
	wantRef(t, w, ref, ok, 3, pair, 2)
	wantNone(t, w, func() (uint64, bool) { return w.Object(empty) })
	w = made(t, 5, "a")
	wantNone(t, w, func() (uint64, bool) { return w.Object(pair) })
	ref, ok = w.Object(empty)
	wantRef(t, w, ref, ok, 3, empty, 0)
	ref, ok = w.Object(none)
	wantRef(t, w, ref, ok, 4, none, 0)
	wantNone(t, w, func() (uint64, bool) { return w.Object(none) })
}

// 10.3: slices of any type and number of words.
func TestSlice(t *testing.T) {
	w := made(t, 3000)
	at := uint64(1)
	for _, c := range []struct {
		kind int
		n    int64
	}{
		{list, 0}, {list, 1}, {list, 3}, {pair, 0}, {pair, 5}, {none, 2}, {0, 1}, {most, 1}, {list, api.MaxLen}, {list, 0},
	} {
		ref, ok := w.Slice(c.kind, c.n)
		wantRef(t, w, ref, ok, at, c.kind, int(c.n))
		for i := range int(c.n) {
			if v := w.Heap().Get(ref, i); v != 0 {
				t.Errorf("element %d of a new slice: %d", i, v)
			}
			w.Heap().Set(ref, i, far)
		}
		at += uint64(c.n) + 1
	}
	for _, n := range []int64{math.MinInt64, -1 << 32, -2, -1, 3000, api.MaxHeap, most, most + 1, 1 << 32, 1<<32 + 1, math.MaxInt64} {
		wantNone(t, w, func() (uint64, bool) { return w.Slice(list, n) })
	}
	for _, kind := range []int{math.MinInt, -1, most + 1, 1<<32 + list, math.MaxInt} {
		wantNone(t, w, func() (uint64, bool) { return w.Slice(kind, 0) })
	}
}

// 10.3: the room alone bounds a slice, to the word.
func TestSliceRoom(t *testing.T) {
	w := made(t, 6, "a")
	wantNone(t, w, func() (uint64, bool) { return w.Slice(list, 3) })
	ref, ok := w.Slice(list, 2)
	wantRef(t, w, ref, ok, 3, list, 2)
	wantNone(t, w, func() (uint64, bool) { return w.Slice(list, 0) })
	w = made(t, api.MaxHeap)
	wantNone(t, w, func() (uint64, bool) { return w.Slice(list, api.MaxHeap-1) })
	ref, ok = w.Slice(list, api.MaxHeap-2)
	wantRef(t, w, ref, ok, 1, list, api.MaxHeap-2)
}

// 10.3: a copy is in the same state: heap, room, texts, types, lines, and inputs.
func TestCopySame(t *testing.T) {
	w, ok := world.New(prog("ab", "", "c"), 12, []int64{5, 6, 7})
	if !ok {
		t.Fatal("no World")
	}
	w.Input()
	w.Print(api.Text, 1)
	w.Slice(list, 1)
	w.Heap().Put(7, 44)
	c := w.Copy()
	if c == w || c.Heap() == w.Heap() {
		t.Fatal("no copy")
	}
	wantWords(t, c, 0, api.Text<<32+2, 'a', 'b', api.Text<<32+1, 'c', list<<32+1, 44)
	if c.Lit(0) != 1 || c.Lit(1) != 0 || c.Lit(2) != 4 || c.Lit(3) != 0 {
		t.Error("the texts")
	}
	if c.Taken() != 1 || c.Input() != 6 || c.Input() != 7 || c.Input() != 0 || c.Taken() != 3 {
		t.Error("the inputs")
	}
	if !slices.Equal(c.Trace(), []string{"ab"}) || c.Full() {
		t.Errorf("the lines: %q", c.Trace())
	}
	wantNone(t, c, func() (uint64, bool) { return c.Object(wide) })
	ref, ok := c.Object(pair)
	wantRef(t, c, ref, ok, 8, pair, 2)
	wantRoom(t, c.Heap(), 1)
}

// 10.3, R7: a copy and its original go their own ways, whichever of the two goes on first.
func TestCopyApart(t *testing.T) {
	for _, swap := range []bool{false, true} {
		w, _ := world.New(prog("ab"), 20, []int64{5, 6, 7})
		w.Print(api.Int, 1)
		w.Print(api.Int, 2)
		w.Print(api.Int, 3) // so that the memory of the lines may have a place left
		w.Input()
		a, b := w, w.Copy()
		if swap {
			a, b = b, a
		}
		a.Print(api.Int, 10)
		b.Print(api.Int, 20)
		a.Input()
		a.Input()
		a.Heap().Put(2, 'z')
		a.Object(pair)
		if !slices.Equal(a.Trace(), []string{"1", "2", "3", "10"}) || !slices.Equal(b.Trace(), []string{"1", "2", "3", "20"}) {
			t.Errorf("the lines: %q, %q", a.Trace(), b.Trace())
		}
		if a.Taken() != 3 || b.Taken() != 1 || b.Input() != 6 {
			t.Error("the inputs")
		}
		wantWords(t, a, 0, api.Text<<32+2, 'z', 'b', pair<<32+2, 0, 0)
		wantWords(t, b, 0, api.Text<<32+2, 'a', 'b')
		b.Slice(list, 1)
		wantWords(t, a, 0, api.Text<<32+2, 'z', 'b', pair<<32+2, 0, 0)
		wantWords(t, b, 0, api.Text<<32+2, 'a', 'b', list<<32+1, 0)
	}
}

// 10.3: a copy of a full World is full, and copies of copies hold too.
func TestCopyFull(t *testing.T) {
	w := made(t, 20)
	for i := range api.MaxTrace {
		w.Print(api.Int, uint64(i))
		if i == api.MaxTrace-2 {
			c := w.Copy().Copy()
			c.Print(api.Bool, 1)
			c.Print(api.Bool, 0)
			if l := c.Trace(); !c.Full() || len(l) != api.MaxTrace || l[len(l)-1] != "true" || w.Full() {
				t.Error("a copy ahead of the last line")
			}
		}
	}
	c := w.Copy()
	c.Print(api.Int, 7)
	if !c.Full() || !slices.Equal(c.Trace(), w.Trace()) || len(c.Trace()) != api.MaxTrace {
		t.Error("a copy of a full one")
	}
}

// R7: two Worlds of one program know nothing of each other.
func TestIndependent(t *testing.T) {
	p, inputs := prog("ab"), []int64{1, 2}
	a, _ := world.New(p, 20, inputs)
	b, _ := world.New(p, 20, inputs)
	a.Print(api.Int, 1)
	a.Input()
	a.Object(pair)
	a.Heap().Put(2, 'z')
	wantWords(t, b, 0, api.Text<<32+2, 'a', 'b')
	if len(b.Trace()) != 0 || b.Taken() != 0 || b.Input() != 1 {
		t.Error("one turned the other")
	}
}
