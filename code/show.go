package code

import (
	"strconv"
	"strings"

	"turnstone/api"
)

// Show returns a line for each instruction of f.
func Show(f api.Func) string {
	var w strings.Builder
	for pc, in := range f.Code {
		w.WriteString(line(pc, in))
	}
	return w.String()
}

// line tells of A and B only what has a meaning for the op.
func line(pc int, in api.Instr) string {
	s := strconv.Itoa(pc) + " " + shownName(in.Op)
	switch in.Op {
	case Num, Bit, Lit, Null, Load, Store, Jump, JumpNo, Field, SetField, New, Make, Cast, Print, Ret:
		s += " " + strconv.Itoa(in.A)
	case Call, Invoke:
		s += " " + strconv.Itoa(in.A) + " " + strconv.Itoa(in.B)
	}
	return s + "\n"
}

// shownName is never empty, so that a number that is no op can be told from another.
func shownName(op int) string {
	if name := Name(op); name != "" {
		return name
	}
	return "op" + strconv.Itoa(op)
}
