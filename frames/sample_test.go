package frames_test

import (
	"slices"
	"testing"

	"turnstone/api"
	"turnstone/code"
	"turnstone/frames"
	"turnstone/kinds"
	"turnstone/verify"
)

// The types of sample, beside those of kinds.Base.
const (
	tP = 5 + iota // struct P { x int }, m(int, int) int
	tI            // interface I { m(int, int) int }
)

// The functions of sample.
const (
	fSum  = iota // sum(a int, b int) int, with a local beside them
	fNone        // none(), without locals
	fMain        // main(), with an int and an I
	fM           // P.m(self P, a int, b int) int, with two locals beside them
	fAll         // all(a int, b bool), without other locals
	fMost        // most(), with MaxLocals locals
	fN           // how many functions there are
)

// What stands where in the main of sample.
const (
	atSum    = 3  // a Call with 3 words ahead of it, 2 of which are arguments
	atM      = 7  // an Invoke with 5 words ahead of it, 3 of which are arguments
	atNone   = 8  // a Call with 3 words ahead of it, none of which is an argument
	atAll    = 13 // a Call with 2 words ahead of it, both of which are arguments
	atNever  = 17 // a Call that is never come to
	mainEnds = 18 // its Ret, the last instruction
)

// sample is a program of written-out code; every call makes a new one, so that a test may turn it.
func sample() api.Prog {
	m := api.Method{Name: "m", Params: []int{api.Int, api.Int}, Result: api.Int, Func: -1}
	own := m
	own.Func = fM
	return api.Prog{
		Types: append(kinds.Base(),
			api.Type{Kind: api.Struct, Name: "P", Fields: []api.Field{{Name: "x", Type: api.Int}}, Methods: []api.Method{own}},
			api.Type{Kind: api.Face, Name: "I", Methods: []api.Method{m}}),
		Funcs: []api.Func{
			{Name: "sum", Params: ints(2), Result: api.Int, Locals: ints(3), Code: []api.Instr{in(code.Load, 0), in(code.Load, 1), in(code.Add), in(code.Ret, 1)}},
			{Name: "none", Code: []api.Instr{in(code.Ret)}},
			{Name: "main", Locals: []int{api.Int, tI}, Code: mainCode()},
			{Name: "P.m", Params: []int{tP, api.Int, api.Int}, Result: api.Int, Locals: []int{tP, api.Int, api.Int, api.Bool, api.Text},
				Code: []api.Instr{in(code.Load, 1), in(code.Load, 2), in(code.Call, fSum, 2), in(code.Ret, 1)}},
			{Name: "all", Params: []int{api.Int, api.Bool}, Locals: []int{api.Int, api.Bool}, Code: []api.Instr{in(code.Ret)}},
			{Name: "most", Locals: ints(api.MaxLocals), Code: []api.Instr{in(code.Call, fMost, 0), in(code.Ret)}},
		},
		Main:  fMain,
		Texts: []string{"m"},
		Nums:  []int64{7, -1},
	}
}

// mainCode is that of sample's main, with the height ahead of each instruction beside it.
func mainCode() []api.Instr {
	return []api.Instr{
		in(code.Num, 0),         // 0: 0
		in(code.Num, 0),         // 1: 1
		in(code.Num, 1),         // 2: 2
		in(code.Call, fSum, 2),  // 3: 3
		in(code.Load, 1),        // 4: 2
		in(code.Num, 0),         // 5: 3
		in(code.Num, 1),         // 6: 4
		in(code.Invoke, 0, 3),   // 7: 5
		in(code.Call, fNone, 0), // 8: 3
		in(code.Pop),            // 9: 3
		in(code.Pop),            // 10: 2
		in(code.Bit, 1),         // 11: 1
		in(code.Jump, 13),       // 12: 2
		in(code.Call, fAll, 2),  // 13: 2
		in(code.Bit),            // 14: 0
		in(code.JumpNo, 18),     // 15: 1
		in(code.Jump, 0),        // 16: 0
		in(code.Call, fNone, 0), // 17: never
		in(code.Ret),            // 18: 0
	}
}

func in(op int, ab ...int) api.Instr {
	ab = append(ab, 0, 0)
	return api.Instr{Op: op, A: ab[0], B: ab[1]}
}

// ints are the types of n ints.
func ints(n int) []int { return slices.Repeat([]int{api.Int}, n) }

// words are the words 1 to n, with spare capacity behind them.
func words(n int) []uint64 {
	l := make([]uint64, 0, n+4)
	for i := range n {
		l = append(l, uint64(i+1))
	}
	return l
}

// frame makes a frame with as many words as are said.
func frame(f, pc, locals, stack int) api.Frame {
	return api.Frame{Func: f, PC: pc, Locals: words(locals), Stack: words(stack)}
}

// last is a frame of sample that may be the last one.
func last() api.Frame { return frame(fSum, 2, 3, 2) }

// caller is a frame of sample that may call.
func caller() api.Frame { return frame(fMain, atSum, 2, 1) }

// under puts the last one above n frames that call.
func under(n int) []api.Frame {
	var l []api.Frame
	for range n {
		l = append(l, caller())
	}
	return append(l, last())
}

// wantRight compares the answer of Right.
func wantRight(t *testing.T, p api.Prog, want bool, what string, l ...api.Frame) {
	t.Helper()
	if frames.Right(p, l) != want {
		t.Errorf("11.2: %s: not %v: %v", what, want, l)
	}
}

// TestSample (9.1, 9.3): the tests below stand on this: sample may run, and its main has these heights.
func TestSample(t *testing.T) {
	p := sample()
	if where, e := verify.Verify(p); e != api.OK {
		t.Fatalf("%d at %v", e, where)
	}
	if l, ok := verify.Heights(p, fMain); !ok || !slices.Equal(l, []int{0, 1, 2, 3, 2, 3, 4, 5, 3, 3, 2, 1, 2, 2, 0, 1, 0, -1, 0}) {
		t.Fatalf("%v %v", l, ok)
	}
}
