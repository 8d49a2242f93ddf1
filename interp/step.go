package interp

import (
	"turnstone/api"
	"turnstone/code"
)

// Step executes one instruction of the last frame, and returns the state.
func (m *Machine) Step() int {
	if m.state != Going {
		return m.state
	}
	x := m.last()
	if trap := m.execute(x, m.prog.Funcs[x.Func].Code[x.PC]); trap != api.NoTrap {
		m.end(Trap, trap)
	}
	return m.state
}

// execute does what an instruction of the last frame x does. Where it answers a trap, nothing has been turned.
func (m *Machine) execute(x *api.Frame, in api.Instr) (trap int) {
	takes, gives, _ := code.Moves(in.Op)
	a, b, c := under(x, takes-1), under(x, takes-2), under(x, takes-3)
	v, next := uint64(0), x.PC+1
	switch in.Op {
	case code.Null, code.Pop: // nothing beside the word that is pushed or taken
	case code.Num:
		v = uint64(m.prog.Nums[in.A])
	case code.Bit:
		v = uint64(in.A)
	case code.Lit:
		v = m.world.Lit(in.A)
	case code.Load:
		v = x.Locals[in.A]
	case code.Store:
		x.Locals[in.A] = a
	case code.Add, code.Sub, code.Mul, code.Div, code.Rem, code.Neg, code.Not:
		v, trap = reckon(in.Op, a, b)
	case code.Eq, code.Ne, code.Lt, code.Le, code.Gt, code.Ge:
		v = compare(in.Op, a, b)
	case code.TextEq, code.TextNe, code.TextLt, code.TextLe:
		v = m.compareTexts(in.Op, a, b)
	case code.Jump:
		next = in.A
	case code.JumpNo:
		if a == 0 {
			next = in.A
		}
	case code.Field, code.SetField:
		v, trap = m.field(in, a, b)
	case code.At, code.SetAt:
		v, trap = m.element(in.Op, a, b, c)
	case code.TextAt:
		v, trap = m.letter(a, b)
	case code.Len:
		v = uint64(m.world.Heap().Len(a))
	case code.Cat, code.New, code.Make:
		v, trap = m.allocate(in, a, b)
	case code.Cast:
		v, trap = m.cast(a, in.A)
	case code.Print:
		m.world.Print(in.A, a)
	case code.Input:
		v = m.world.Input()
	case code.Call:
		return m.call(x, in.A, in.B)
	case code.Invoke:
		return m.invoke(x, in)
	case code.Ret:
		m.ret(in.A == 1)
		return api.NoTrap
	}
	if trap == api.NoTrap {
		finish(x, takes, gives, v)
		x.PC = next
	}
	return trap
}

// finish removes the words that an instruction takes, and pushes v if it gives one.
func finish(x *api.Frame, takes, gives int, v uint64) {
	drop(x, takes)
	if gives > 0 {
		x.Stack = append(x.Stack, v)
	}
}

// under returns the word that has n words above it on the stack, or 0 if there is none.
// A function that verify accepts takes none that is not there, but the frame above a caller, which
// comes from outside, may be one of a function that has no result where the caller waits for one.
func under(x *api.Frame, n int) uint64 {
	i := len(x.Stack) - 1 - n
	if n < 0 || i < 0 {
		return 0
	}
	return x.Stack[i]
}

// drop removes the last n words of the stack, as far as they are there.
func drop(x *api.Frame, n int) {
	x.Stack = x.Stack[:max(0, len(x.Stack)-n)]
}
