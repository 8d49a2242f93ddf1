package code

// Name returns the name of op, and nothing for a number that is no op.
func Name(op int) string {
	switch op {
	case Num:
		return "Num"
	case Bit:
		return "Bit"
	case Lit:
		return "Lit"
	case Null:
		return "Null"
	case Load:
		return "Load"
	case Store:
		return "Store"
	case Pop:
		return "Pop"
	}
	return nameFromAdd(op)
}

// nameFromAdd names the ops that make a word of others, and those behind them in the list.
func nameFromAdd(op int) string {
	switch op {
	case Add:
		return "Add"
	case Sub:
		return "Sub"
	case Mul:
		return "Mul"
	case Div:
		return "Div"
	case Rem:
		return "Rem"
	case Neg:
		return "Neg"
	case Not:
		return "Not"
	case Eq:
		return "Eq"
	case Ne:
		return "Ne"
	case Lt:
		return "Lt"
	case Le:
		return "Le"
	case Gt:
		return "Gt"
	case Ge:
		return "Ge"
	case Cat:
		return "Cat"
	case TextEq:
		return "TextEq"
	case TextNe:
		return "TextNe"
	case TextLt:
		return "TextLt"
	case TextLe:
		return "TextLe"
	}
	return nameFromJump(op)
}

// nameFromJump names the last ops of the list: jumps, objects, calls and the end of a frame.
func nameFromJump(op int) string {
	switch op {
	case Jump:
		return "Jump"
	case JumpNo:
		return "JumpNo"
	case Field:
		return "Field"
	case SetField:
		return "SetField"
	case At:
		return "At"
	case SetAt:
		return "SetAt"
	case TextAt:
		return "TextAt"
	case Len:
		return "Len"
	case New:
		return "New"
	case Make:
		return "Make"
	case Call:
		return "Call"
	case Invoke:
		return "Invoke"
	case Cast:
		return "Cast"
	case Print:
		return "Print"
	case Input:
		return "Input"
	case Ret:
		return "Ret"
	}
	return ""
}
