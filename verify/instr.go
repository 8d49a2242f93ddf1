package verify

import (
	"turnstone/api"
	"turnstone/code"
	"turnstone/kinds"
)

// instrFault returns the first fault of an instruction that shows without its stack.
func instrFault(p api.Prog, f api.Func, pc int) api.Errno {
	in := f.Code[pc]
	switch {
	case !rightOp(p, in):
		return api.ErrOp
	case usesLocal(in.Op) && !within(in.A, len(f.Locals)):
		return api.ErrLocal
	case jumps(in.Op) && !within(in.A, len(f.Code)):
		return api.ErrJump
	case pc == len(f.Code)-1 && in.Op != code.Jump && in.Op != code.Ret:
		return api.ErrFall
	}
	return api.OK
}

func usesLocal(op int) bool {
	return op == code.Load || op == code.Store
}

func jumps(op int) bool {
	return op == code.Jump || op == code.JumpNo
}

// rightOp reports whether there is such an op, and whether its A and B denote what they have to.
func rightOp(p api.Prog, in api.Instr) bool {
	switch in.Op {
	case code.Num:
		return within(in.A, len(p.Nums))
	case code.Lit:
		return within(in.A, len(p.Texts))
	case code.Bit, code.Ret:
		return in.A == 0 || in.A == 1
	case code.Null:
		return kinds.IsRef(p.Types, in.A)
	case code.New, code.Cast:
		return isKind(p.Types, in.A, api.Struct)
	case code.Make:
		return isKind(p.Types, in.A, api.Slice)
	case code.Print:
		return in.A == api.Int || in.A == api.Bool || in.A == api.Text
	case code.Field, code.SetField:
		return within(in.A, api.MaxFields)
	case code.Call:
		return within(in.A, len(p.Funcs)) && in.B == len(p.Funcs[in.A].Params)
	case code.Invoke:
		return within(in.A, len(p.Texts)) && in.B >= 1 && in.B <= api.MaxParams
	}
	return code.Name(in.Op) != ""
}
