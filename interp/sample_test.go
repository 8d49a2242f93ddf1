package interp_test

import (
	"slices"
	"testing"

	"turnstone/api"
	"turnstone/code"
	"turnstone/frames"
	"turnstone/heap"
	"turnstone/interp"
	"turnstone/kinds"
	"turnstone/verify"
	"turnstone/world"
)

// The types of sample, beside those of kinds.Base.
const (
	tP    = 5 + iota // struct P { x int; next P }, m(int) int
	tPs              // []P
	tI               // interface I { m(int) int }
	tQ               // struct Q { }, m(int) int
	tInts            // []int
	tV               // interface V { v(int) }
	tR               // struct R { y int }, v(int)
	tBare            // struct Bare { }
	tFew             // struct Few { }, m() int
	tMany            // struct Many { }, m(int, int) int
	tMute            // struct Mute { }, m(int)
	tLoud            // struct Loud { }, v(int) int
	tN               // how many types there are
)

// values are the types that a word may have; the main of sample has a local of each.
var values = []int{api.Int, api.Bool, api.Text, tP, tPs, tI, tQ, tInts, tV, tR, tBare, tFew, tMany, tMute, tLoud}

// The functions of sample.
const (
	fMain  = iota // main()
	fPm           // P.m(self P, a int) int, with a local beside them
	fQm           // Q.m(self Q, a int) int
	fRv           // R.v(self R, a int), with two locals beside them
	fFew          // Few.m(self Few) int
	fMany         // Many.m(self Many, a int, b int) int
	fMute         // Mute.m(self Mute, a int)
	fLoud         // Loud.v(self Loud, a int) int
	fNone         // none()
	fSum          // sum(a int, b int) int, with a local beside them
	fMost         // most(MaxParams ints)
	fSelf         // self(), which calls itself
	fGives        // gives(i I) int, which invokes m of i
	fEight        // eight(), which calls most
	fN            // how many functions there are
)

// The texts of sample; as an index of Texts, nameM and nameV are those of methods.
const (
	nameM = iota
	nameV
	textEmpty
	textABC
)

// sample is a program of which the main has the given code; every call makes a new one, so that a test may turn it.
func sample(main ...api.Instr) api.Prog {
	method := func(name string, result, f int, params ...int) []api.Method {
		return []api.Method{{Name: name, Params: params, Result: result, Func: f}}
	}
	back := list(in(code.Load, 1), in(code.Ret, 1))
	return api.Prog{
		Types: append(kinds.Base(),
			api.Type{Kind: api.Struct, Name: "P", Fields: []api.Field{{Name: "x", Type: api.Int}, {Name: "next", Type: tP}}, Methods: method("m", api.Int, fPm, api.Int)},
			api.Type{Kind: api.Slice, Elem: tP},
			api.Type{Kind: api.Face, Name: "I", Methods: method("m", api.Int, -1, api.Int)},
			api.Type{Kind: api.Struct, Name: "Q", Methods: method("m", api.Int, fQm, api.Int)},
			api.Type{Kind: api.Slice, Elem: api.Int},
			api.Type{Kind: api.Face, Name: "V", Methods: method("v", api.Void, -1, api.Int)},
			api.Type{Kind: api.Struct, Name: "R", Fields: []api.Field{{Name: "y", Type: api.Int}}, Methods: method("v", api.Void, fRv, api.Int)},
			api.Type{Kind: api.Struct, Name: "Bare"},
			api.Type{Kind: api.Struct, Name: "Few", Methods: method("m", api.Int, fFew)},
			api.Type{Kind: api.Struct, Name: "Many", Methods: method("m", api.Int, fMany, api.Int, api.Int)},
			api.Type{Kind: api.Struct, Name: "Mute", Methods: method("m", api.Void, fMute, api.Int)},
			api.Type{Kind: api.Struct, Name: "Loud", Methods: method("v", api.Int, fLoud, api.Int)}),
		Funcs: []api.Func{
			{Name: "main", Locals: slices.Clone(values), Code: main},
			{Name: "P.m", Params: []int{tP, api.Int}, Result: api.Int, Locals: []int{tP, api.Int, api.Int}, Code: back},
			{Name: "Q.m", Params: []int{tQ, api.Int}, Result: api.Int, Locals: []int{tQ, api.Int}, Code: list(in(code.Num, 1), in(code.Ret, 1))},
			{Name: "R.v", Params: []int{tR, api.Int}, Locals: []int{tR, api.Int, api.Text, api.Bool}, Code: list(in(code.Ret))},
			{Name: "Few.m", Params: []int{tFew}, Result: api.Int, Locals: []int{tFew}, Code: list(in(code.Num, 1), in(code.Ret, 1))},
			{Name: "Many.m", Params: []int{tMany, api.Int, api.Int}, Result: api.Int, Locals: []int{tMany, api.Int, api.Int}, Code: slices.Clone(back)},
			{Name: "Mute.m", Params: []int{tMute, api.Int}, Locals: []int{tMute, api.Int}, Code: list(in(code.Ret))},
			{Name: "Loud.v", Params: []int{tLoud, api.Int}, Result: api.Int, Locals: []int{tLoud, api.Int}, Code: slices.Clone(back)},
			{Name: "none", Code: list(in(code.Ret))},
			{Name: "sum", Params: ints(2), Result: api.Int, Locals: ints(3), Code: list(in(code.Load), in(code.Load, 1), in(code.Add), in(code.Ret, 1))},
			{Name: "most", Params: ints(api.MaxParams), Locals: ints(api.MaxParams), Code: list(in(code.Ret))},
			{Name: "self", Code: list(in(code.Call, fSelf), in(code.Ret))},
			{Name: "gives", Params: []int{tI}, Result: api.Int, Locals: []int{tI}, Code: list(in(code.Load), in(code.Num), in(code.Invoke, nameM, 2), in(code.Ret, 1))},
			{Name: "eight", Code: append(slices.Repeat(list(in(code.Num)), api.MaxParams), in(code.Call, fMost, api.MaxParams), in(code.Ret))},
		},
		Texts: []string{"m", "v", "", "abc"},
		Nums:  []int64{7, -1, 1 << 62, -1 << 63},
	}
}

func in(op int, ab ...int) api.Instr {
	ab = append(ab, 0, 0)
	return api.Instr{Op: op, A: ab[0], B: ab[1]}
}

func list(l ...api.Instr) []api.Instr { return l }

// ints are the types of n ints.
func ints(n int) []int { return slices.Repeat([]int{api.Int}, n) }

// load pushes a word of one of the types of values.
func load(t int) api.Instr { return in(code.Load, slices.Index(values, t)) }

// TestSample: the tests beside this one stand on it: sample may run.
func TestSample(t *testing.T) {
	p := sample(in(code.Ret))
	if where, e := verify.Verify(p); e != api.OK {
		t.Fatalf("%d at %v", e, where)
	}
	if len(p.Types) != tN || len(p.Funcs) != fN {
		t.Fatalf("%d types, %d functions", len(p.Types), len(p.Funcs))
	}
}

// started returns a new Machine, which there must be.
func started(t *testing.T, p api.Prog, room int, inputs ...int64) *interp.Machine {
	t.Helper()
	m, e := interp.New(p, room, inputs)
	if e != api.OK || m == nil {
		t.Fatalf("12.1: New: %v %d", m, e)
	}
	return m
}

// going returns a Machine that goes on from frames, which there must be.
func going(t *testing.T, p api.Prog, w *world.World, l ...api.Frame) *interp.Machine {
	t.Helper()
	m, e := interp.At(p, w, l)
	if e != api.OK || m == nil {
		where, wrong := verify.Verify(p)
		t.Fatalf("12.1: At: %v %d; Verify: %d at %v, frames %v", m, e, wrong, where, l)
	}
	return m
}

// newWorld returns a World of a program, which there must be.
func newWorld(t *testing.T, p api.Prog, room int, inputs ...int64) *world.World {
	t.Helper()
	w, ok := world.New(p, room, inputs)
	if !ok {
		t.Fatal("no World")
	}
	return w
}

// put puts an object of a type with these words into the heap of a World.
func put(t *testing.T, w *world.World, kind int, l ...uint64) uint64 {
	t.Helper()
	ref, ok := w.Heap().Alloc(kind, len(l))
	if !ok {
		t.Fatal("no room for an object")
	}
	for i, v := range l {
		w.Heap().Set(ref, i, v)
	}
	return ref
}

// text puts a text into a heap.
func text(t *testing.T, h *heap.Heap, s string) uint64 {
	t.Helper()
	ref, ok := h.Text(s)
	if !ok {
		t.Fatal("no room for a text")
	}
	return ref
}

// wantOver compares what Over and Step tell of the state. Of a Machine that goes on, Step is not asked.
func wantOver(t *testing.T, m *interp.Machine, state, trap int) {
	t.Helper()
	if s, tr := m.Over(); s != state || tr != trap {
		t.Fatalf("12.2: state %d, trap %d, not %d and %d", s, tr, state, trap)
	}
}

// wantFrames compares the frames, and what Top tells of the last one.
func wantFrames(t *testing.T, m *interp.Machine, want ...api.Frame) {
	t.Helper()
	if l := m.Frames(); !frames.Same(l, want) {
		t.Fatalf("12.2: the frames\n%v, not\n%v", l, want)
	}
	x := api.Frame{Func: -1}
	if len(want) > 0 {
		x = want[len(want)-1]
	}
	if f, pc, height := m.Top(); f != x.Func || pc != x.PC || height != len(x.Stack) {
		t.Fatalf("12.2: Top: %d %d %d of %v", f, pc, height, x)
	}
}

// look is all of a World that can be seen.
type look struct {
	words []uint64
	trace []string
	taken int
	lits  []uint64
}

func lookAt(w *world.World) look {
	l := look{words: w.Heap().Words(), trace: w.Trace(), taken: w.Taken()}
	for k := range 6 {
		l.lits = append(l.lits, w.Lit(k))
	}
	return l
}

func (l look) same(with look) bool {
	return slices.Equal(l.words, with.words) && slices.Equal(l.trace, with.trace) && l.taken == with.taken && slices.Equal(l.lits, with.lits)
}

func wantWorld(t *testing.T, w *world.World, want look) {
	t.Helper()
	if l := lookAt(w); !l.same(want) {
		t.Fatalf("12.2: the World\n%v, not\n%v", l, want)
	}
}

// bottom lies on the stack under the words that an instruction takes.
const bottom = 12345

// mainOf is the code of a main in which an instruction stands that takes words of these types, and the pc of it.
func mainOf(x api.Instr, gives int, takes ...int) ([]api.Instr, int) {
	l := list(in(code.Num))
	for _, t := range takes {
		l = append(l, load(t))
	}
	pc := len(l)
	l = append(l, x)
	for range gives {
		l = append(l, in(code.Pop))
	}
	return append(l, in(code.Pop), in(code.Ret)), pc
}

// try is one instruction that is executed alone.
type try struct {
	in    api.Instr
	takes []int // types
	words []uint64
	gives []uint64
}

// ahead puts a Machine ahead of the instruction, in a World of its program. What a call takes is told by takes, what it gives by gives.
func (c try) ahead(t *testing.T, w *world.World, gives int) (*interp.Machine, api.Frame) {
	t.Helper()
	main, pc := mainOf(c.in, gives, c.takes...)
	x := api.Frame{Func: fMain, PC: pc, Locals: make([]uint64, len(values)), Stack: append([]uint64{bottom}, c.words...)}
	for i := range x.Locals {
		x.Locals[i] = uint64(1000 + i)
	}
	return going(t, sample(main...), w, x), x
}

// wantGives executes the instruction, which must give the words, and turn nothing of the frame beside the stack and the pc.
func (c try) wantGives(t *testing.T, w *world.World) {
	t.Helper()
	m, x := c.ahead(t, w, len(c.gives))
	if s := m.Step(); s != interp.Going {
		_, trap := m.Over()
		t.Fatalf("7.1: %s of %v: state %d, trap %d", code.Name(c.in.Op), c.words, s, trap)
	}
	x.PC++
	x.Stack = append([]uint64{bottom}, c.gives...)
	if l := m.Frames(); !frames.Same(l, []api.Frame{x}) {
		t.Fatalf("7.1: %s %d of %v: %v, not %v", code.Name(c.in.Op), c.in.A, c.words, l, x)
	}
	wantFrames(t, m, x)
	wantOver(t, m, interp.Going, api.NoTrap)
}

// wantTrap executes the instruction, which must end the run and turn nothing.
func (c try) wantTrap(t *testing.T, w *world.World, trap int) {
	t.Helper()
	gives := 0
	if _, n, fixed := code.Moves(c.in.Op); fixed {
		gives = n
	} else {
		gives = len(c.gives)
	}
	m, x := c.ahead(t, w, gives)
	wantTrapped(t, m, trap, x)
}

// wantTrapped executes one instruction of a Machine with the frames, which must end the run and turn nothing.
func wantTrapped(t *testing.T, m *interp.Machine, trap int, l ...api.Frame) {
	t.Helper()
	before := lookAt(m.World())
	w := m.World()
	if n := m.Run(1); n != 1 {
		t.Fatalf("12.2: Run executed %d", n)
	}
	for range 3 {
		wantOver(t, m, interp.Trap, trap)
		wantFrames(t, m, l...)
		wantWorld(t, m.World(), before)
		if m.Step() != interp.Trap || m.Run(7) != 0 || m.Put(l) || m.World() != w {
			t.Fatal("12.2: it is not over")
		}
	}
}
