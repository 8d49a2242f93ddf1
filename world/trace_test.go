package world_test

import (
	"math"
	"slices"
	"strconv"
	"strings"
	"testing"

	"turnstone/api"
	"turnstone/world"
)

func wantTrace(t *testing.T, w *world.World, want ...string) {
	t.Helper()
	if got := w.Trace(); !slices.Equal(got, want) {
		t.Fatalf("the trace: %q, want %q", got, want)
	}
}

// wantLine prints a value, which must give the line.
func wantLine(t *testing.T, w *world.World, kind int, v uint64, want string) {
	t.Helper()
	before := w.Trace()
	w.Print(kind, v)
	wantTrace(t, w, append(before, want)...)
}

// 10.2: the chapter's example.
func TestPrintExample(t *testing.T) {
	w := made(t, 20)
	w.Print(api.Int, 1<<64-1)
	wantTrace(t, w, "-1")
}

// 10.2: the digits of ints.
func TestPrintInt(t *testing.T) {
	w := made(t, 20)
	for _, c := range []struct {
		v    uint64
		line string
	}{
		{0, "0"}, {1, "1"}, {9, "9"}, {10, "10"}, {100, "100"}, {1234567890, "1234567890"},
		{1<<64 - 10, "-10"}, {1<<64 - 7, "-7"}, {1 << 32, "4294967296"}, {1<<64 - 1<<32, "-4294967296"},
		{math.MaxInt64, "9223372036854775807"}, {math.MaxInt64 - 1, "9223372036854775806"},
		{1 << 63, "-9223372036854775808"}, {1<<63 + 1, "-9223372036854775807"},
	} {
		wantLine(t, w, api.Int, c.v, c.line)
	}
}

// 10.2: every word but 0 is true.
func TestPrintBool(t *testing.T) {
	w := made(t, 20)
	wantLine(t, w, api.Bool, 0, "false")
	for _, v := range []uint64{1, 2, 3, 256, 1 << 32, 1 << 63, far} {
		wantLine(t, w, api.Bool, v, "true")
	}
}

// 10.2: the bytes of texts, as they are.
func TestPrintText(t *testing.T) {
	all := make([]byte, 256)
	for i := range all {
		all[i] = byte(i)
	}
	texts := []string{"ab", "a\n", "\n", " ", "\x00", "é\xff\x80", string(all), strings.Repeat("x", 3*api.MaxLen), "7"}
	w := made(t, api.MaxHeap, texts...)
	wantLine(t, w, api.Text, 0, "")
	for k, s := range texts {
		wantLine(t, w, api.Text, w.Lit(k), s)
	}
	wantLine(t, w, api.Text, 0, "")
}

// 10.2: words that are no reference of a text are read as one.
func TestPrintTextOdd(t *testing.T) {
	w := made(t, 30, "abc")
	w.Slice(list, 2)
	w.Heap().Put(6, 256+'x')
	w.Heap().Put(7, far)
	w.Heap().Put(3, 2)
	for _, c := range []struct {
		v    uint64
		line string
	}{
		{1, "a\x02c"}, {3, "c\x02"}, {5, "x\xff"},
		{2, "\x02c\x02x\xff\x00\x00\x00"}, // a length of 'a' is more than the heap's eight words
		{8, ""}, {9, ""}, {30, ""}, {1 << 32, ""}, {1<<32 + 1, ""}, {1 << 63, ""}, {far, ""},
	} {
		wantLine(t, w, api.Text, c.v, c.line)
	}
}

// 10.2: a line stays as it was printed, whatever becomes of the text.
func TestPrintKeeps(t *testing.T) {
	w := made(t, 20, "ab")
	w.Print(api.Text, 1)
	w.Heap().Put(2, 'z')
	w.Print(api.Text, 1)
	wantTrace(t, w, "ab", "zb")
}

// 10.2: values of other kinds print nothing.
func TestPrintOther(t *testing.T) {
	w := made(t, 20, "ab")
	w.Print(api.Int, 4)
	for _, kind := range []int{math.MinInt, -3, -2, -1, api.Void, api.Nil, api.Struct, api.Slice, api.Face, 8, pair, 257, 1<<32 + 1, math.MaxInt} {
		for _, v := range []uint64{0, 1, far} {
			w.Print(kind, v)
			wantTrace(t, w, "4")
		}
	}
	wantWords(t, w, 0, api.Text<<32+2, 'a', 'b')
}

// 10.2: a trace takes MaxTrace lines, and none behind them, of whatever kind.
func TestFull(t *testing.T) {
	w := made(t, 20, "ab")
	var want []string
	for i := range api.MaxTrace {
		if w.Full() || len(w.Trace()) != i {
			t.Fatalf("full at %d lines", i)
		}
		w.Print(api.Int, uint64(i))
		want = append(want, strconv.Itoa(i))
		w.Print(api.Nil, 1)
	}
	for range 3 {
		if !w.Full() {
			t.Fatal("not full")
		}
		wantTrace(t, w, want...)
		w.Print(api.Int, 5)
		w.Print(api.Bool, 1)
		w.Print(api.Text, 1)
		w.Print(api.Nil, 1)
	}
	if w.Input() != 0 || w.Lit(0) != 1 {
		t.Error("a full World answers otherwise")
	}
	ref, ok := w.Object(pair)
	wantRef(t, w, ref, ok, 4, pair, 2)
}

// 10.2, R2: what Trace returns is the caller's own, its spare capacity too.
func TestTraceOwn(t *testing.T) {
	w := made(t, 20)
	for i := range 5 {
		w.Print(api.Int, uint64(i))
	}
	a, b := w.Trace(), w.Trace()
	for i := range a[:cap(a)] {
		a[:cap(a)][i] = "x"
	}
	if !slices.Equal(b, []string{"0", "1", "2", "3", "4"}) {
		t.Error("two answers share memory")
	}
	w.Print(api.Bool, 1)
	wantTrace(t, w, "0", "1", "2", "3", "4", "true")
	if len(b) != 5 {
		t.Error("an earlier answer follows the trace")
	}
}

// 10.2: the inputs in their order, then 0 without end, of which none counts.
func TestInput(t *testing.T) {
	for _, inputs := range [][]int64{nil, {}, {0}, {7, -1}, {0, 0, 5}, {math.MinInt64, math.MaxInt64, -2, 1}} {
		w, ok := world.New(prog(), 20, inputs)
		if !ok {
			t.Fatal("no World")
		}
		for i, v := range inputs {
			if w.Taken() != i {
				t.Errorf("%v: taken %d, want %d", inputs, w.Taken(), i)
			}
			if got := w.Input(); got != uint64(v) {
				t.Errorf("%v: input %d: %d", inputs, i, got)
			}
		}
		for range 3 {
			if w.Taken() != len(inputs) || w.Input() != 0 || w.Taken() != len(inputs) {
				t.Errorf("%v: behind the last: taken %d", inputs, w.Taken())
			}
		}
		wantTrace(t, w)
	}
}

// 10.2: the words of negative inputs.
func TestInputWords(t *testing.T) {
	w, _ := world.New(prog(), 20, []int64{-1, math.MinInt64, math.MaxInt64})
	if a, b, c := w.Input(), w.Input(), w.Input(); a != far || b != 1<<63 || c != 1<<63-1 {
		t.Errorf("%d %d %d", a, b, c)
	}
}

// 10.2: the methods as values, which stay with their World.
func TestMethodValues(t *testing.T) {
	w, _ := world.New(prog("ab"), 20, []int64{7, 8})
	print, input, full := w.Print, w.Input, w.Full
	w = w.Copy()
	print(api.Int, input())
	if w.Taken() != 0 || len(w.Trace()) != 0 || full() || input() != 8 {
		t.Error("a method value")
	}
}
