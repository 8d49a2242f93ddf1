package code_test

import (
	"math"
	"slices"
	"strconv"
	"strings"
	"testing"

	"turnstone/api"
	"turnstone/code"
)

// The calls and the constants, as the chapter has them: the constants are untyped, so that each fits a byte too.
var (
	_ func(int) string           = code.Name
	_ func(api.Func) string      = code.Show
	_ func(int) (int, int, bool) = code.Moves
	_ func(int) bool             = code.Leaves
	_ func(api.Instr, int) []int = code.Targets
	_                            = [...]byte{code.Num, code.Pop, code.TextLe, code.JumpNo, code.Ret}
)

// rows is the chapter's table: a name, what is taken and given (both - where no number is fixed), how many of A and B are shown, and whether the op leaves.
const rows = `
Num      0 1 1 stays
Bit      0 1 1 stays
Lit      0 1 1 stays
Null     0 1 1 stays
Load     0 1 1 stays
Store    1 0 1 stays
Pop      1 0 0 stays
Add      2 1 0 stays
Sub      2 1 0 stays
Mul      2 1 0 stays
Div      2 1 0 stays
Rem      2 1 0 stays
Neg      1 1 0 stays
Not      1 1 0 stays
Eq       2 1 0 stays
Ne       2 1 0 stays
Lt       2 1 0 stays
Le       2 1 0 stays
Gt       2 1 0 stays
Ge       2 1 0 stays
Cat      2 1 0 leaves
TextEq   2 1 0 leaves
TextNe   2 1 0 leaves
TextLt   2 1 0 leaves
TextLe   2 1 0 leaves
Jump     0 0 1 stays
JumpNo   1 0 1 stays
Field    1 1 1 stays
SetField 2 0 1 stays
At       2 1 0 stays
SetAt    3 0 0 stays
TextAt   2 1 0 stays
Len      1 1 0 stays
New      0 1 1 leaves
Make     1 1 1 leaves
Call     - - 2 leaves
Invoke   - - 2 leaves
Cast     1 1 1 stays
Print    1 0 1 leaves
Input    0 1 0 leaves
Ret      - - 1 stays
`

// row is a line of the table.
type row struct {
	op, takes, gives, shown int
	name                    string
	fixed, leaves           bool
}

// table is made anew for each test; the first row is that of the op 1.
func table(t *testing.T) []row {
	t.Helper()
	var l []row
	for i, s := range strings.Split(strings.TrimSpace(rows), "\n") {
		w := strings.Fields(s)
		r := row{op: i + 1, name: w[0], fixed: w[1] != "-", leaves: w[4] == "leaves"}
		if r.fixed {
			r.takes, r.gives = whole(t, w[1]), whole(t, w[2])
		}
		r.shown = whole(t, w[3])
		l = append(l, r)
	}
	if len(l) != 41 {
		t.Fatalf("the table has %d rows", len(l))
	}
	return l
}

func whole(t *testing.T, s string) int {
	t.Helper()
	n, err := strconv.Atoi(s)
	if err != nil {
		t.Fatal(err)
	}
	return n
}

// others are numbers that are no op: those about the ops, those that would be one in fewer bits or with another sign, and the ends of int.
func others() []int {
	l := []int{math.MinInt, math.MinInt + 1, math.MaxInt - 1, math.MaxInt}
	for i := -300; i <= 0; i++ {
		l = append(l, i)
	}
	for i := 42; i <= 300; i++ {
		l = append(l, i)
	}
	for op := 1; op <= 41; op++ {
		for _, bits := range []int{16, 31, 32, 62, 63} {
			l = append(l, op+1<<bits, op-1<<bits)
		}
	}
	return l
}

// TestNumbers (7.1): each constant has its place in the order of the list.
func TestNumbers(t *testing.T) {
	l := []int{
		code.Num, code.Bit, code.Lit, code.Null, code.Load, code.Store, code.Pop,
		code.Add, code.Sub, code.Mul, code.Div, code.Rem, code.Neg, code.Not,
		code.Eq, code.Ne, code.Lt, code.Le, code.Gt, code.Ge,
		code.Cat, code.TextEq, code.TextNe, code.TextLt, code.TextLe,
		code.Jump, code.JumpNo, code.Field, code.SetField, code.At, code.SetAt, code.TextAt, code.Len,
		code.New, code.Make, code.Call, code.Invoke, code.Cast, code.Print, code.Input, code.Ret,
	}
	if len(l) != 41 {
		t.Fatalf("%d ops", len(l))
	}
	for i, op := range l {
		if op != i+1 {
			t.Errorf("7.1: the op %d of the list has the number %d", i+1, op)
		}
	}
}

// TestName (7.1): the name of each op, which no other has, and none for other numbers.
func TestName(t *testing.T) {
	for _, r := range table(t) {
		if s := code.Name(r.op); s != r.name {
			t.Errorf("7.1: Name(%d) is %q, not %q", r.op, s, r.name)
		}
	}
	for _, op := range others() {
		if s := code.Name(op); s != "" {
			t.Errorf("7.1: Name(%d) is %q", op, s)
		}
	}
}

// TestMoves (7.1): what each op takes and gives; 0, 0 and false for those that it is not fixed for, and for what is no op.
func TestMoves(t *testing.T) {
	for _, r := range table(t) {
		wantMoves(t, r.op, r.takes, r.gives, r.fixed)
	}
	for _, op := range []int{code.Call, code.Invoke, code.Ret} {
		wantMoves(t, op, 0, 0, false)
	}
	for _, op := range others() {
		wantMoves(t, op, 0, 0, false)
	}
}

func wantMoves(t *testing.T, op, takes, gives int, fixed bool) {
	t.Helper()
	a, b, ok := code.Moves(op)
	if a != takes || b != gives || ok != fixed {
		t.Errorf("7.1: Moves(%d) is %d, %d, %v, not %d, %d, %v", op, a, b, ok, takes, gives, fixed)
	}
}

// TestLeaves (7.1): which ops leave, and that no other number does.
func TestLeaves(t *testing.T) {
	count := 0
	for _, r := range table(t) {
		if code.Leaves(r.op) != r.leaves {
			t.Errorf("7.1: Leaves of %s is not %v", r.name, r.leaves)
		}
		if r.leaves {
			count++
		}
	}
	if count != 11 {
		t.Errorf("7.1: %d ops leave in the table", count)
	}
	for _, op := range others() {
		if code.Leaves(op) {
			t.Errorf("7.1: Leaves(%d)", op)
		}
	}
}

// pcs are where an instruction may be said to be, and where a jump may be said to lead.
func pcs() []int {
	return []int{0, 1, 2, 3, 4, 7, api.MaxCode - 1, api.MaxCode, 1 << 31, 1 << 40, math.MaxInt - 1, -1, -2, -1 << 40, math.MinInt}
}

// TestTargets (7.1): the targets of each op and of numbers that are none, at any pc, whatever A and B are.
func TestTargets(t *testing.T) {
	for _, pc := range pcs() {
		for _, a := range append(pcs(), pc, pc+1) {
			for _, r := range table(t) {
				wantTargets(t, api.Instr{Op: r.op, A: a, B: a / 2}, pc, follow(r.name, a, pc))
			}
			for _, op := range others()[:40] {
				wantTargets(t, api.Instr{Op: op, A: a, B: a}, pc, []int{pc + 1})
			}
		}
	}
	for _, op := range others() {
		wantTargets(t, api.Instr{Op: op, A: 9}, 3, []int{4})
	}
}

// follow says by the name of an op what follows it.
func follow(name string, a, pc int) []int {
	switch name {
	case "Jump":
		return []int{a}
	case "JumpNo":
		return []int{pc + 1, a}
	case "Ret":
		return nil
	}
	return []int{pc + 1}
}

func wantTargets(t *testing.T, in api.Instr, pc int, want []int) {
	t.Helper()
	if l := code.Targets(in, pc); !slices.Equal(l, want) {
		t.Errorf("7.1: Targets(%v, %d) is %v, not %v", in, pc, l, want)
	}
}

// TestTargetsExamples (7.1): targets written out, also those of a JumpNo to itself and to the next pc, which are told twice.
func TestTargetsExamples(t *testing.T) {
	wantTargets(t, api.Instr{Op: code.JumpNo, A: 7}, 3, []int{4, 7})
	wantTargets(t, api.Instr{Op: code.JumpNo, A: 1}, 3, []int{4, 1})
	wantTargets(t, api.Instr{Op: code.JumpNo, A: 3}, 3, []int{4, 3})
	wantTargets(t, api.Instr{Op: code.JumpNo, A: 4}, 3, []int{4, 4})
	wantTargets(t, api.Instr{Op: code.JumpNo, A: -5, B: 8}, 0, []int{1, -5})
	wantTargets(t, api.Instr{Op: code.Jump, A: 7, B: 8}, 3, []int{7})
	wantTargets(t, api.Instr{Op: code.Jump, A: 3}, 3, []int{3})
	wantTargets(t, api.Instr{Op: code.Ret, A: 1}, 3, nil)
	wantTargets(t, api.Instr{Op: code.Ret}, -1, nil)
	wantTargets(t, api.Instr{Op: code.Call, A: 5, B: 2}, 3, []int{4})
	wantTargets(t, api.Instr{Op: code.Invoke, A: 5, B: 2}, 3, []int{4})
	wantTargets(t, api.Instr{}, -1, []int{0})
}

// TestTargetsAreNew (7.1, R2): what a caller does with an answer is not seen in the next one.
func TestTargetsAreNew(t *testing.T) {
	for op := 0; op <= 42; op++ {
		in := api.Instr{Op: op, A: 7}
		want := slices.Clone(code.Targets(in, 3))
		for range 3 {
			l := code.Targets(in, 3)
			other := code.Targets(in, 3)
			for i := range l[:cap(l)] {
				l[:cap(l)][i] = -9
			}
			_ = append(l, -9)
			if !slices.Equal(other, want) || !slices.Equal(code.Targets(in, 3), want) {
				t.Errorf("R2: op %d: %v, then %v, not %v", op, other, code.Targets(in, 3), want)
			}
		}
	}
}
