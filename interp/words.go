package interp

import (
	"turnstone/api"
	"turnstone/code"
)

// reckon returns what an op makes of the words a and b, or the trap Div.
func reckon(op int, a, b uint64) (v uint64, trap int) {
	switch op {
	case code.Add:
		return a + b, api.NoTrap
	case code.Sub:
		return a - b, api.NoTrap
	case code.Mul:
		return a * b, api.NoTrap
	case code.Neg:
		return -a, api.NoTrap
	case code.Not:
		return bit(a == 0), api.NoTrap
	}
	if b == 0 {
		return 0, api.Div
	}
	if op == code.Div {
		return uint64(int64(a) / int64(b)), api.NoTrap
	}
	return uint64(int64(a) % int64(b)), api.NoTrap
}

// compare returns 1 if the words a and b are as op asks, and 0 otherwise.
func compare(op int, a, b uint64) uint64 {
	switch op {
	case code.Eq:
		return bit(a == b)
	case code.Ne:
		return bit(a != b)
	case code.Lt:
		return bit(int64(a) < int64(b))
	case code.Le:
		return bit(int64(a) <= int64(b))
	case code.Gt:
		return bit(int64(a) > int64(b))
	}
	return bit(int64(a) >= int64(b))
}

// compareTexts returns 1 if the texts a and b are as op asks, and 0 otherwise.
func (m *Machine) compareTexts(op int, a, b uint64) uint64 {
	switch op {
	case code.TextEq:
		return bit(m.world.Equal(a, b))
	case code.TextNe:
		return bit(!m.world.Equal(a, b))
	case code.TextLt:
		return bit(m.world.Less(a, b))
	}
	return bit(!m.world.Less(b, a))
}

func bit(b bool) uint64 {
	if b {
		return 1
	}
	return 0
}
