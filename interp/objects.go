package interp

import (
	"turnstone/api"
	"turnstone/code"
)

// field reads the field of an object, or sets it to v.
func (m *Machine) field(in api.Instr, ref, v uint64) (uint64, int) {
	if ref == 0 {
		return 0, api.Null
	}
	if in.Op == code.SetField {
		m.world.Heap().Set(ref, in.A, v)
		return 0, api.NoTrap
	}
	return m.world.Heap().Get(ref, in.A), api.NoTrap
}

// element reads the element of a slice, or sets it to v.
func (m *Machine) element(op int, ref, i, v uint64) (uint64, int) {
	h := m.world.Heap()
	if ref == 0 {
		return 0, api.Null
	}
	// As an unsigned word, an index below 0 is greater than every length.
	if i >= uint64(h.Len(ref)) {
		return 0, api.Index
	}
	if op == code.SetAt {
		h.Set(ref, int(i), v)
		return 0, api.NoTrap
	}
	return h.Get(ref, int(i)), api.NoTrap
}

// letter reads a byte of a text.
func (m *Machine) letter(ref, i uint64) (uint64, int) {
	h := m.world.Heap()
	// These are the bytes of heap.String, which is not asked for all of them only to see one.
	if i >= uint64(min(h.Len(ref), h.Used())) {
		return 0, api.Index
	}
	return h.Get(ref, int(i)) % (1 << 8), api.NoTrap
}

// allocate makes the object of an instruction that allocates.
func (m *Machine) allocate(in api.Instr, a, b uint64) (ref uint64, trap int) {
	ok := false
	switch in.Op {
	case code.Cat:
		ref, ok = m.world.Cat(a, b)
	case code.New:
		ref, ok = m.world.Object(in.A)
	case code.Make:
		if a > api.MaxLen { // as an unsigned word, a size below 0 is greater too
			return 0, api.Size
		}
		ref, ok = m.world.Slice(in.A, int64(a))
	}
	if !ok {
		return 0, api.Memory
	}
	return ref, api.NoTrap
}

// cast returns the reference of an object of the type t as it is.
func (m *Machine) cast(ref uint64, t int) (uint64, int) {
	// Of nil it is 0, which is no struct.
	if m.world.Heap().Type(ref) != t {
		return 0, api.Cast
	}
	return ref, api.NoTrap
}
