package interp

import (
	"turnstone/api"
	"turnstone/frames"
	"turnstone/kinds"
	"turnstone/verify"
)

// call puts a frame of function f above the last frame x, which gives it n words and remains at its instruction.
func (m *Machine) call(x *api.Frame, f, n int) (trap int) {
	if len(m.frames) >= api.MaxFrames {
		return api.Depth
	}
	rest := max(0, len(x.Stack)-n)
	callee := frames.Enter(m.prog, f, x.Stack[rest:])
	drop(x, n)
	m.frames = append(m.frames, callee)
	return api.NoTrap
}

// invoke calls a method of the receiver, the first of the words that the instruction takes.
func (m *Machine) invoke(x *api.Frame, in api.Instr) (trap int) {
	f, ok := m.method(x, in)
	if !ok {
		return api.Null
	}
	return m.call(x, f, in.B)
}

// method returns the function that an Invoke calls, and whether there is one.
func (m *Machine) method(x *api.Frame, in api.Instr) (f int, ok bool) {
	types := m.prog.Types
	t := m.world.Heap().Type(under(x, in.B-1)) // of nil 0, which has no methods
	i, ok := kinds.Method(types, t, m.prog.Texts[in.A])
	// A head that no program has made may name an interface: its methods have no function.
	if !ok || types[t].Kind != api.Struct {
		return 0, false
	}
	called := types[t].Methods[i]
	return called.Func, (called.Result != api.Void) == m.waits(x, in)
}

// waits reports whether the Invoke at which x is pushes a result. A receiver that the program cannot have
// may have a method of the name that does otherwise; the stack would not be what verify has seen.
func (m *Machine) waits(x *api.Frame, in api.Instr) bool {
	l := m.heights[x.Func]
	if l == nil {
		l, _ = verify.Heights(m.prog, x.Func)
		m.heights[x.Func] = l
	}
	return l[x.PC+1] > l[x.PC]-in.B
}

// ret removes the last frame; its result, if it has one, goes to the frame that waits for it.
func (m *Machine) ret(has bool) {
	v := under(m.last(), 0)
	m.frames = m.frames[:len(m.frames)-1]
	if len(m.frames) == 0 {
		m.end(Done, api.NoTrap)
		return
	}
	x := m.last()
	if has {
		x.Stack = append(x.Stack, v)
	}
	x.PC++
}
