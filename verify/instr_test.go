package verify_test

import (
	"fmt"
	"math"
	"slices"
	"testing"

	"turnstone/api"
	"turnstone/code"
	"turnstone/verify"
)

// far are numbers that denote nothing, whatever is asked.
var far = []int{math.MinInt, math.MinInt32, -1 << 32, -2, -1, 1 << 31, 1 << 32, 1<<32 + 1, 1<<32 + 5, math.MaxInt}

// upTo lists the numbers from 0 on that are less than n.
func upTo(n int) []int {
	var l []int
	for i := range n {
		l = append(l, i)
	}
	return l
}

// valid lists the A that an op may have, and the error of every other A; the code has so many instructions. A nil list stands for any A.
func valid(op, length int) ([]int, api.Errno) {
	switch op {
	case code.Num:
		return upTo(2), api.ErrOp
	case code.Lit, code.Invoke:
		return upTo(4), api.ErrOp
	case code.Call:
		return upTo(fN), api.ErrOp
	case code.Bit, code.Ret:
		return []int{0, 1}, api.ErrOp
	case code.Null:
		return []int{api.Text, tP, tPs, tI, tQ, tE, tInts, tR, tK, tIs}, api.ErrOp
	case code.New, code.Cast:
		return []int{tP, tQ, tR}, api.ErrOp
	case code.Make:
		return []int{tPs, tInts, tIs}, api.ErrOp
	case code.Print:
		return []int{api.Int, api.Bool, api.Text}, api.ErrOp
	case code.Field, code.SetField:
		return upTo(12), api.ErrOp
	case code.Load, code.Store:
		return upTo(len(values)), api.ErrLocal
	case code.Jump, code.JumpNo:
		return upTo(length), api.ErrJump
	}
	return nil, api.OK
}

// validB lists the B that an op may have with its A; a nil list stands for any.
func validB(op, a int) []int {
	switch op {
	case code.Call:
		return [][]int{{0}, {2}, {2}, {3}, {0}, {3}, {0}}[a]
	case code.Invoke:
		return []int{1, 2, 3, 4, 5, 6, 7, 8}
	}
	return nil
}

// TestOperands (9.1): every op with every A and B that is near to what may be, where it is not reached.
func TestOperands(t *testing.T) {
	numbers := append(upTo(60), far...)
	for op := code.Num; op <= code.Ret; op++ {
		for _, a := range numbers {
			for _, b := range append([]int{0, 1, 2, 3, 4, 5, 7, 8, 9, 10}, far...) {
				l := list(ret, in(op, a, b), ret)
				valids, e := valid(op, len(l))
				switch {
				case valids == nil || slices.Contains(valids, a):
					e = api.OK
					if bs := validB(op, a); bs != nil && !slices.Contains(bs, b) {
						e = api.ErrOp
					}
				}
				pc := 0
				if e != api.OK {
					pc = 1
				}
				wantMain(t, l, pc, e, fmt.Sprint("9.1: ", l[1]))
			}
		}
	}
}

// TestNoOps (9.1): numbers that are no op, whatever A and B are.
func TestNoOps(t *testing.T) {
	for _, op := range append([]int{0, code.Ret + 1, code.Ret + 2, 99, 1 << 40}, far...) {
		for _, a := range []int{0, 1, 99, -1} {
			wantMain(t, list(ret, in(op, a), ret), 1, api.ErrOp, fmt.Sprint("9.1: op ", op))
			wantMain(t, list(in(op, a), ret), 0, api.ErrOp, fmt.Sprint("9.1: op ", op))
			wantMain(t, list(ret, in(op, a)), 1, api.ErrOp, fmt.Sprint("9.1: op ", op))
		}
	}
}

// TestLocalsOfTheFunction (9.1): the locals are those of the function, not those of another one.
func TestLocalsOfTheFunction(t *testing.T) {
	for f, n := range map[int]int{fPm: 2, fRm: 3, fVoid: 0, fMany: 3} {
		for a := -1; a < 5; a++ {
			p := world(ret)
			p.Funcs[f].Code = append(p.Funcs[f].Code, in(code.Load, a), ret)
			where, e := verify.Where{}, api.OK
			if a < 0 || a >= n {
				where, e = verify.Where{Func: f, PC: len(p.Funcs[f].Code) - 2}, api.ErrLocal
			}
			wantVerify(t, p, where, e, fmt.Sprint("9.1: local ", a, " of ", f))
		}
	}
}

// TestFall (9.1): the last instruction is a Jump or a Ret, reached or not.
func TestFall(t *testing.T) {
	for op := code.Num; op <= code.Ret; op++ {
		a, b := 0, 0
		switch op {
		case code.Null, code.New, code.Cast:
			a = tP
		case code.Make:
			a = tPs
		case code.Print:
			a = api.Int
		case code.Invoke:
			b = 1
		}
		pc, e := 1, api.ErrFall
		if op == code.Jump || op == code.Ret {
			pc, e = 0, api.OK
		}
		wantMain(t, list(ret, in(op, a, b)), pc, e, "9.1: last")
	}
	wantMain(t, list(in(code.Bit, 1)), 0, api.ErrFall, "9.1: the chapter's example")
	wantMain(t, list(in(code.Jump, 5)), 0, api.ErrJump, "9.1: the chapter's example")
	wantMain(t, list(in(code.Bit, 1), in(code.JumpNo, 0)), 1, api.ErrFall, "9.1: a JumpNo at the end")
	wantMain(t, list(in(code.Jump)), 0, api.OK, "9.1: a Jump at the end")
	wantMain(t, list(ret, in(code.Pop)), 1, api.ErrFall, "9.1: a last one that is not reached")
}

// TestFirstOfAnInstruction (9.1): of two errors of one instruction the first, and of two instructions that of the lesser pc.
func TestFirstOfAnInstruction(t *testing.T) {
	for _, c := range []struct {
		in api.Instr
		e  api.Errno
	}{
		{in(0), api.ErrOp},
		{in(code.Num, 2), api.ErrOp},
		{in(code.Lit, -1), api.ErrOp},
		{in(code.Call, fVoid, 1), api.ErrOp},
		{in(code.Invoke, 0, 0), api.ErrOp},
		{in(code.Load, 99), api.ErrLocal},
		{in(code.Store, -1), api.ErrLocal},
		{in(code.JumpNo, 99), api.ErrJump},
		{in(code.JumpNo, -1), api.ErrJump},
		{in(code.JumpNo, 2), api.ErrJump},
		{in(code.JumpNo, 1), api.ErrFall},
		{in(code.Load, 0), api.ErrFall},
		{in(code.Ret, 2), api.ErrOp},
		{in(code.Jump, 2), api.ErrJump},
	} {
		wantMain(t, list(ret, c.in), 1, c.e, "9.1: last")
		// The walk would find fewer words than are taken at 0.
		wantMain(t, list(in(code.Add), c.in), 1, c.e, "9.1: last, behind a fault of the walk")
	}
	wrong := list(in(0), in(code.Load, 99), in(code.Jump, 99), in(code.Num, 99))
	errors := []api.Errno{api.ErrOp, api.ErrLocal, api.ErrJump, api.ErrOp}
	for i := range wrong {
		for j := range wrong {
			wantMain(t, list(in(code.Jump, 3), wrong[i], wrong[j], ret), 1, errors[i], "9.1: two")
			wantMain(t, list(in(code.Pop), wrong[i], wrong[j]), 1, errors[i], "9.1: two")
		}
	}
}
