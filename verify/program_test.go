package verify_test

import (
	"math"
	"slices"
	"strconv"
	"strings"
	"testing"

	"turnstone/api"
	"turnstone/code"
	"turnstone/kinds"
	"turnstone/verify"
)

// fault is a turn of world, and what Verify answers then. The step is that of 9.1.
type fault struct {
	name  string
	step  int
	turn  func(p *api.Prog)
	where verify.Where
	e     api.Errno
}

var ret = in(code.Ret)

// times makes a list of so many equal things.
func times[T any](n int, x T) []T {
	return slices.Repeat([]T{x}, n)
}

// wholeFaults are those of the first step, each at its first value that is too much.
func wholeFaults() []fault {
	l := []fault{
		{name: "types that are not right", turn: func(p *api.Prog) { p.Types[tQ].Name = "" }},
		{name: "too many types", turn: func(p *api.Prog) { p.Types = append(p.Types, times(api.MaxTypes, p.Types[tQ])...) }},
		{name: "a method of a Face with a function", turn: func(p *api.Prog) { p.Types[tI].Methods[0].Func = fPm }},
		{name: "61 functions", turn: func(p *api.Prog) { p.Funcs = append(p.Funcs, times(api.MaxFuncs+1-fN, p.Funcs[fVoid])...) }},
		{name: "a Main of -1", turn: func(p *api.Prog) { p.Main = -1 }},
		{name: "a Main behind the last", turn: func(p *api.Prog) { p.Main = fN }},
		{name: "a Main far away", turn: func(p *api.Prog) { p.Main = math.MaxInt }},
		{name: "a Main farther away", turn: func(p *api.Prog) { p.Main = math.MinInt }},
		{name: "a Main with parameters and a result", turn: func(p *api.Prog) { p.Main = fPm }},
		{name: "a Main with parameters", turn: func(p *api.Prog) { p.Funcs[fMain].Params = []int{api.Int} }},
		{name: "a Main with a result", turn: func(p *api.Prog) { p.Main = fOne }},
		{name: "a Main whose result is none that may be", turn: func(p *api.Prog) { p.Funcs[fMain].Result = -3 }},
		{name: "10001 Nums", turn: func(p *api.Prog) { p.Nums = make([]int64, 10001) }},
		{name: "10001 Texts", turn: func(p *api.Prog) { p.Texts = append(p.Texts, make([]string, 9997)...) }},
		{name: "a text of 2001 bytes", turn: func(p *api.Prog) { p.Texts = append(p.Texts, strings.Repeat("x", api.MaxLen+1)) }},
		{name: "a first text of 2001 bytes", turn: func(p *api.Prog) { p.Texts[0] = strings.Repeat("x", api.MaxLen+1) }},
		{name: "a text of fewer runes than bytes", turn: func(p *api.Prog) { p.Texts[1] = strings.Repeat("ä", api.MaxLen/2+1) }},
	}
	for i := range l {
		l[i].step, l[i].e = 1, api.ErrArg
	}
	return l
}

// headFaults are those of the second step, in the order of the functions.
func headFaults() []fault {
	l := []fault{
		{name: "41 locals", where: verify.Where{Func: fMain}, turn: func(p *api.Prog) { p.Funcs[fMain].Locals = times(41, api.Int) }},
		{name: "a local of type -1", where: verify.Where{Func: fPm}, turn: func(p *api.Prog) { p.Funcs[fPm].Locals = []int{tP, api.Int, -1} }},
		{name: "a local of the type behind the last", where: verify.Where{Func: fRm}, turn: func(p *api.Prog) { p.Funcs[fRm].Locals[2] = tN }},
		{name: "params that are not the first locals", where: verify.Where{Func: fRk}, turn: func(p *api.Prog) { p.Funcs[fRk].Locals[2] = tR }},
		{name: "a local Void", where: verify.Where{Func: fVoid}, turn: func(p *api.Prog) { p.Funcs[fVoid].Locals = []int{api.Int, api.Void} }},
		{name: "fewer locals than params", where: verify.Where{Func: fMany}, turn: func(p *api.Prog) { p.Funcs[fMany].Locals = p.Funcs[fMany].Locals[:2] }},
		{name: "a result Nil", where: verify.Where{Func: fOne}, turn: func(p *api.Prog) { p.Funcs[fOne].Result = api.Nil }},
	}
	for i := range l {
		l[i].step, l[i].e = 2, api.ErrArg
	}
	return l
}

// methodFaults are those of the third step.
func methodFaults() []fault {
	l := []fault{
		{name: "a method of no function", turn: func(p *api.Prog) { p.Types[tP].Methods[0].Func = fN }},
		{name: "a method of a function far away", turn: func(p *api.Prog) { p.Types[tR].Methods[1].Func = math.MaxInt }},
		{name: "a method of a function without parameters", turn: func(p *api.Prog) { p.Types[tP].Methods[0].Func = fVoid }},
		{name: "a method of another struct's function", turn: func(p *api.Prog) { p.Types[tP].Methods[0].Func = fRm }},
		{name: "another result", turn: func(p *api.Prog) { p.Types[tP].Methods[0].Result = api.Bool }},
		{name: "no result", turn: func(p *api.Prog) { p.Types[tP].Methods[0].Result = api.Void }},
		{name: "another parameter", turn: func(p *api.Prog) { p.Types[tP].Methods[0].Params[0] = api.Bool }},
		{name: "a parameter less", turn: func(p *api.Prog) { p.Types[tR].Methods[1].Params = []int{tI} }},
		{name: "a parameter more", turn: func(p *api.Prog) { p.Types[tR].Methods[1].Params = []int{tI, tP, tP} }},
		{name: "parameters in another order", turn: func(p *api.Prog) { p.Types[tR].Methods[1].Params = []int{tP, tI} }},
		{name: "a parameter that only fits", turn: func(p *api.Prog) { p.Types[tR].Methods[1].Params = []int{tP, tP} }},
		{name: "eight parameters", turn: func(p *api.Prog) { p.Types[tR].Methods[1].Params = times(api.MaxParams, tP) }},
		{name: "a struct of no fields", turn: func(p *api.Prog) { p.Types[tQ].Methods = []api.Method{{Name: "z", Func: fPm}} }},
	}
	for i := range l {
		l[i].step, l[i].e = 3, api.ErrArg
	}
	return l
}

// codeFaults are those of the fourth step, in the order in which they are met.
func codeFaults() []fault {
	l := []fault{
		{name: "no code", where: verify.Where{Func: fPm}, e: api.ErrArg, turn: func(p *api.Prog) { p.Funcs[fPm].Code = nil }},
		{name: "a walk's fault", where: verify.Where{Func: fRm, PC: 1}, e: api.ErrType, turn: func(p *api.Prog) { p.Funcs[fRm].Code[0].A = 0 }},
		{name: "no op", where: verify.Where{Func: fRk, PC: 1}, e: api.ErrOp, turn: func(p *api.Prog) { p.Funcs[fRk].Code[1].Op = 0 }},
		{name: "4001 instructions", where: verify.Where{Func: fVoid}, e: api.ErrArg, turn: func(p *api.Prog) { p.Funcs[fVoid].Code = times(api.MaxCode+1, ret) }},
		{name: "another walk's fault", where: verify.Where{Func: fMany, PC: 0}, e: api.ErrHeight, turn: func(p *api.Prog) { p.Funcs[fMany].Code[0].Op = code.Pop }},
		{name: "a local that is not there", where: verify.Where{Func: fOne}, e: api.ErrLocal, turn: func(p *api.Prog) { p.Funcs[fOne].Code[0] = in(code.Load) }},
	}
	for i := range l {
		l[i].step = 4
	}
	return l
}

func allFaults() []fault {
	return slices.Concat(wholeFaults(), headFaults(), methodFaults(), codeFaults())
}

// TestFaults (9.1): each fault alone.
func TestFaults(t *testing.T) {
	wantVerify(t, world(ret), verify.Where{}, api.OK, "9.1: no fault")
	for _, f := range allFaults() {
		p := world(ret)
		f.turn(&p)
		wantVerify(t, p, f.where, f.e, "9.1: "+f.name)
	}
	wantVerify(t, api.Prog{}, verify.Where{}, api.ErrArg, "9.1: nothing")
}

// TestFirstFault (9.1): of two faults that of the earlier step, and in a step that of the earlier function.
func TestFirstFault(t *testing.T) {
	l := allFaults()
	for i, first := range l {
		for _, then := range l[i+1:] {
			if first.step == then.step && first.where == then.where {
				continue
			}
			for _, order := range [][]fault{{first, then}, {then, first}} {
				p := world(ret)
				order[0].turn(&p)
				order[1].turn(&p)
				wantVerify(t, p, first.where, first.e, "9.1: "+order[0].name+", "+order[1].name)
			}
		}
	}
}

// TestWholeLimits (9.1): the greatest values that may be.
func TestWholeLimits(t *testing.T) {
	p := world(in(code.Num, 9999), in(code.Pop), in(code.Lit, 9999), in(code.Pop), in(code.Call, 59), ret)
	p.Nums = make([]int64, 10000)
	p.Texts = append(p.Texts, times(9996, strings.Repeat("y", api.MaxLen))...)
	p.Funcs = append(p.Funcs, times(api.MaxFuncs-fN, p.Funcs[fVoid])...)
	wantVerify(t, p, verify.Where{}, api.OK, "9.1: all limits")
	for main := range p.Funcs {
		p.Main = main
		e := api.ErrArg
		if main == fMain || main == fVoid || main >= fN {
			e = api.OK
		}
		wantVerify(t, p, verify.Where{}, e, "9.1: the Main "+strconv.Itoa(main))
	}
}

// TestTypesAreRight (9.1): whatever kinds.Right refuses.
func TestTypesAreRight(t *testing.T) {
	for i, turn := range []func(p *api.Prog){
		func(p *api.Prog) { p.Types = nil },
		func(p *api.Prog) { p.Types = p.Types[1:] },
		func(p *api.Prog) { p.Types[0].Name = "void" },
		func(p *api.Prog) { p.Types[tQ].Fields = []api.Field{{Name: "x", Type: api.Nil}} },
		func(p *api.Prog) { p.Types[tR].Methods[0].Func = -1 },
		func(p *api.Prog) { p.Types[tIs].Elem = api.Int },
		func(p *api.Prog) { p.Types[tIs].Elem = tN },
		func(p *api.Prog) { p.Types = append(p.Types, api.Type{Kind: 8, Name: "X"}) },
		func(p *api.Prog) { p.Types = append(p.Types, times(api.MaxTypes, api.Type{})...) },
	} {
		p := world(ret)
		turn(&p)
		if kinds.Right(p.Types) {
			t.Errorf("turn %d turns nothing", i)
		}
		wantVerify(t, p, verify.Where{}, api.ErrArg, "9.1: types, turn "+strconv.Itoa(i))
	}
	p := world(ret)
	p.Types = append(p.Types, api.Type{Kind: api.Slice, Elem: tN})
	wantVerify(t, p, verify.Where{}, api.OK, "9.1: a slice of itself")
}

// oneHead is world with a further function of the given Params, Locals and Result, which does not end.
func oneHead(params, locals []int, result int) api.Prog {
	p := world(ret)
	p.Funcs = append(p.Funcs, api.Func{Params: params, Locals: locals, Result: result, Code: []api.Instr{in(code.Jump)}})
	return p
}

// TestHeads (9.1): the Params, the Locals and the Result of a function.
func TestHeads(t *testing.T) {
	here := verify.Where{Func: fN}
	for i, c := range []struct {
		params, locals []int
		ok             bool
	}{
		{nil, nil, true},
		{[]int{}, []int{tE}, true},
		{[]int{api.Int}, []int{api.Int}, true},
		{[]int{api.Int}, nil, false},
		{[]int{api.Int}, []int{api.Bool}, false},
		{[]int{tI}, []int{tP}, false},
		{[]int{api.Int, tP}, []int{api.Int, tP, api.Bool}, true},
		{[]int{api.Int, tP}, []int{api.Int, api.Bool, tP}, false},
		{[]int{api.Int, tP}, []int{tP, api.Int}, false},
		{[]int{api.Int, tP}, []int{api.Int}, false},
		{times(api.MaxParams, tP), times(api.MaxParams, tP), true},
		{times(api.MaxParams+1, tP), times(api.MaxParams+1, tP), false},
		{nil, times(api.MaxLocals, tP), true},
		{times(api.MaxParams, tP), times(api.MaxLocals, tP), true},
		{nil, times(api.MaxLocals+1, tP), false},
		{times(1<<20, tP), times(1<<20, tP), false},
	} {
		e := api.OK
		w := verify.Where{}
		if !c.ok {
			e, w = api.ErrArg, here
		}
		wantVerify(t, oneHead(c.params, c.locals, api.Void), w, e, "9.1: head "+strconv.Itoa(i))
	}
	for _, of := range []int{math.MinInt, -1, 0, 1, 2, 3, 4, 5, 6, tIs, tN, tN + 1, 1 << 32, 1<<32 + 1, math.MaxInt} {
		value := slices.Contains(values, of)
		name := "9.1: type " + strconv.Itoa(of)
		for _, c := range []struct {
			p  api.Prog
			ok bool
		}{
			{oneHead([]int{of}, []int{of}, api.Void), value},
			{oneHead([]int{api.Int, of}, []int{api.Int, of, api.Int}, api.Void), value},
			{oneHead(nil, []int{api.Int, of}, api.Void), value},
			{oneHead(nil, nil, of), value || of == api.Void},
		} {
			if c.ok {
				wantVerify(t, c.p, verify.Where{}, api.OK, name)
			} else {
				wantVerify(t, c.p, here, api.ErrArg, name)
			}
		}
	}
}

// TestFaceMethodsHaveNoFunction (9.1): only the methods of a Struct are looked up.
func TestFaceMethodsHaveNoFunction(t *testing.T) {
	p := world(ret)
	p.Types[tE].Methods = []api.Method{{Name: "other", Params: times(api.MaxParams, tQ), Result: tK, Func: -1}}
	wantVerify(t, p, verify.Where{}, api.OK, "9.1: a method of a Face")
	p = world(ret)
	p.Types[tQ].Methods = []api.Method{{Name: "same", Params: []int{}, Func: fN}}
	p.Funcs = append(p.Funcs, api.Func{Params: []int{tQ}, Locals: []int{tQ}, Code: []api.Instr{ret}})
	wantVerify(t, p, verify.Where{}, api.OK, "9.1: a method without parameters")
	p.Types[tQ].Methods = append(p.Types[tQ].Methods, api.Method{Name: "again", Func: fN})
	wantVerify(t, p, verify.Where{}, api.OK, "9.1: two methods of one function")
	p.Types[tQ].Methods[1].Result = api.Int
	wantVerify(t, p, verify.Where{}, api.ErrArg, "9.1: a second method that has another result")
}

// TestCodeLength (9.1): the empty code, the longest, and a longer one with other faults.
func TestCodeLength(t *testing.T) {
	wantVerify(t, world(), verify.Where{}, api.ErrArg, "9.1: no code")
	wantMain(t, list(ret), 0, api.OK, "9.1: one instruction")
	wantMain(t, times(api.MaxCode, ret), 0, api.OK, "9.1: the longest")
	wantMain(t, times(api.MaxCode+1, ret), 0, api.ErrArg, "9.1: one more")
	wantMain(t, times(api.MaxCode+1, in(code.Pop)), 0, api.ErrArg, "9.1: one more, with other faults")
	long := times(api.MaxCode, in(code.Jump, api.MaxCode-1))
	wantMain(t, long, 0, api.OK, "9.1: jumps to the end")
	long[api.MaxCode-2].A = api.MaxCode
	wantMain(t, long, api.MaxCode-2, api.ErrJump, "9.1: a jump behind the end")
}
