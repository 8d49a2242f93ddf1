package verify_test

import (
	"slices"
	"testing"

	"turnstone/api"
	"turnstone/code"
	"turnstone/kinds"
	"turnstone/verify"
)

// The types of world, beside those of kinds.Base.
const (
	tP    = 5 + iota // struct P { x int; next P; b bool; s string; i I; l []P }, m(int) int
	tPs              // []P
	tI               // interface I { m(int) int }
	tQ               // struct Q { }
	tE               // interface E { }
	tInts            // []int
	tR               // struct R { y int }, m(int) int, k(I, P) bool
	tK               // interface K { k(I, P) bool; n() }
	tIs              // []I
	tN               // how many types there are
)

// values are the types that a word may have.
var values = []int{api.Int, api.Bool, api.Text, tP, tPs, tI, tQ, tE, tInts, tR, tK, tIs}

// The functions of world.
const (
	fMain = iota // main()
	fPm          // P.m(self P, a int) int
	fRm          // R.m(self R, a int) int
	fRk          // R.k(self R, i I, p P) bool
	fVoid        // v()
	fMany        // f(a int, i I, p P) string
	fOne         // g() P
	fN           // how many functions there are
)

// world is a program of which the main has the given code, and a local of each type of values; every call makes a new one, so that a test may turn it.
func world(main ...api.Instr) api.Prog {
	return api.Prog{
		Types: append(kinds.Base(),
			api.Type{Kind: api.Struct, Name: "P",
				Fields:  []api.Field{{Name: "x", Type: api.Int}, {Name: "next", Type: tP}, {Name: "b", Type: api.Bool}, {Name: "s", Type: api.Text}, {Name: "i", Type: tI}, {Name: "l", Type: tPs}},
				Methods: []api.Method{{Name: "m", Params: []int{api.Int}, Result: api.Int, Func: fPm}}},
			api.Type{Kind: api.Slice, Elem: tP},
			api.Type{Kind: api.Face, Name: "I", Methods: []api.Method{{Name: "m", Params: []int{api.Int}, Result: api.Int, Func: -1}}},
			api.Type{Kind: api.Struct, Name: "Q"},
			api.Type{Kind: api.Face, Name: "E"},
			api.Type{Kind: api.Slice, Elem: api.Int},
			api.Type{Kind: api.Struct, Name: "R", Fields: []api.Field{{Name: "y", Type: api.Int}}, Methods: []api.Method{
				{Name: "m", Params: []int{api.Int}, Result: api.Int, Func: fRm},
				{Name: "k", Params: []int{tI, tP}, Result: api.Bool, Func: fRk}}},
			api.Type{Kind: api.Face, Name: "K", Methods: []api.Method{{Name: "k", Params: []int{tI, tP}, Result: api.Bool, Func: -1}, {Name: "n", Func: -1}}},
			api.Type{Kind: api.Slice, Elem: tI}),
		Funcs: []api.Func{
			{Name: "main", Locals: slices.Clone(values), Code: main},
			{Name: "P.m", Params: []int{tP, api.Int}, Result: api.Int, Locals: []int{tP, api.Int}, Code: []api.Instr{in(code.Load, 1), in(code.Ret, 1)}},
			{Name: "R.m", Params: []int{tR, api.Int}, Result: api.Int, Locals: []int{tR, api.Int, api.Bool}, Code: []api.Instr{in(code.Load, 1), in(code.Ret, 1)}},
			{Name: "R.k", Params: []int{tR, tI, tP}, Result: api.Bool, Locals: []int{tR, tI, tP}, Code: []api.Instr{in(code.Bit, 1), in(code.Ret, 1)}},
			{Name: "v", Code: []api.Instr{in(code.Ret)}},
			{Name: "f", Params: []int{api.Int, tI, tP}, Result: api.Text, Locals: []int{api.Int, tI, tP}, Code: []api.Instr{in(code.Lit), in(code.Ret, 1)}},
			{Name: "g", Result: tP, Code: []api.Instr{in(code.New, tP), in(code.Ret, 1)}},
		},
		Texts: []string{"m", "k", "n", "x"},
		Nums:  []int64{7, -1},
	}
}

func in(op int, ab ...int) api.Instr {
	ab = append(ab, 0, 0)
	return api.Instr{Op: op, A: ab[0], B: ab[1]}
}

// load pushes a word of one of the types of values.
func load(t int) api.Instr {
	return in(code.Load, slices.Index(values, t))
}

func list(l ...api.Instr) []api.Instr { return l }

// wantVerify compares the answer of Verify.
func wantVerify(t *testing.T, p api.Prog, where verify.Where, e api.Errno, what string) {
	t.Helper()
	if w, got := verify.Verify(p); got != e || w != where {
		t.Errorf("%s: %d at %v, not %d at %v", what, got, w, e, where)
	}
}

// wantMain compares what Verify answers about a main of the given code.
func wantMain(t *testing.T, l []api.Instr, pc int, e api.Errno, what string) {
	t.Helper()
	wantVerify(t, world(l...), verify.Where{PC: pc}, e, what+": "+code.Show(api.Func{Code: l[:min(len(l), 12)]}))
}
