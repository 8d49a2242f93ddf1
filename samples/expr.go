package samples

import (
	"strconv"
)

// maxParts is how many expressions a function has, but for short ones: a text must not have too many tokens.
const maxParts = 60

// expr makes an expression that fits a type; those within it are nested room deep at most.
func (m *maker) expr(of string, room int) string {
	m.parts++
	if room <= 0 || m.parts > maxParts || m.below(4) == 0 {
		return m.simple(of)
	}
	switch of {
	case "int":
		return m.number(room - 1)
	case "bool":
		return m.truth(room - 1)
	case "string":
		return m.words(room - 1)
	case "P":
		return m.object(room - 1)
	case "I":
		return m.expr(m.of("P", "Q", "Q"), room-1)
	}
	return m.simple(of)
}

// simple makes an expression of exactly this type, or one of a struct where an interface is asked for.
func (m *maker) simple(of string) string {
	if name, ok := m.known(of, false); ok && m.below(5) > 0 {
		return name
	}
	switch of {
	case "int":
		return m.literal()
	case "bool":
		return m.of("true", "false")
	case "string":
		return m.of(`""`, `"a"`, `"ab"`, `"b\n"`, `"p"`)
	case "P":
		return "newP(" + strconv.Itoa(m.below(5)) + ")"
	case "[]int":
		return "make([]int, " + m.size() + ")"
	}
	return "new(Q)"
}

// size makes the size of a slice, which nearly always may be.
func (m *maker) size() string {
	if m.below(30) == 0 {
		return m.simple("int")
	}
	return strconv.Itoa(1 + m.below(5))
}

func (m *maker) literal() string {
	if m.below(10) == 0 {
		return m.of("9223372036854775807", "(-9223372036854775807 - 1)", "4294967296", "-1")
	}
	return strconv.Itoa(m.below(10))
}

func (m *maker) number(room int) string {
	switch m.below(14) {
	case 0, 1, 2:
		return "(" + m.expr("int", room) + m.of(" + ", " - ", " * ") + m.expr("int", room) + ")"
	case 3:
		return "(" + m.expr("int", room) + m.of(" / ", " % ") + m.divisor(room) + ")"
	case 4:
		return "-" + m.expr("int", room)
	case 5:
		return "len(" + m.simple(m.of("string", "[]int")) + ")"
	case 6:
		return m.expr("P", room) + m.of(".x", ".x", ".q.y")
	case 7:
		if l, ok := m.known("[]int", false); ok {
			return l + "[" + m.index(l, room) + "]"
		}
	case 8:
		if s, ok := m.known("string", false); ok {
			return "(" + s + ` + "z")[` + m.index(s, room) + "]"
		}
	case 9:
		return m.of("input()", "sum("+strconv.Itoa(m.below(6))+")")
	}
	return m.called(room)
}

// divisor makes a number that is hardly ever 0.
func (m *maker) divisor(room int) string {
	if m.below(12) == 0 {
		return m.expr("int", room)
	}
	return m.of("1", "2", "3", "7", "(-1)", "(-2)")
}

// called makes a number by a call.
func (m *maker) called(room int) string {
	switch {
	case m.mayCall(f0) && m.below(3) == 0:
		return "f0(" + m.expr("int", room) + ", " + m.expr("int", room) + ")"
	case m.mayCall(f2) && m.below(3) == 0:
		return "f2(" + m.expr("I", room) + ", " + m.simple("[]int") + ")"
	case m.mayCall(methods):
		return m.receiver(room) + ".m(" + m.expr("int", room) + ")"
	}
	return "idx(" + m.expr("int", room) + ", " + strconv.Itoa(2+m.below(6)) + ")"
}

// receiver makes an object that has the methods m and k: an interface or a struct.
func (m *maker) receiver(room int) string {
	if m.below(2) == 0 {
		if name, ok := m.known("I", false); ok {
			return name
		}
	}
	return m.expr("P", room) + m.of("", ".i", ".i", ".q")
}

func (m *maker) truth(room int) string {
	switch m.below(9) {
	case 0, 1, 2:
		return "(" + m.expr("int", room) + m.of(" < ", " <= ", " > ", " >= ", " == ", " != ") + m.expr("int", room) + ")"
	case 3:
		return "(" + m.expr("string", room) + m.of(" < ", " <= ", " > ", " >= ", " == ", " != ") + m.expr("string", room) + ")"
	case 4:
		return "(" + m.expr("bool", room) + m.of(" && ", " || ", " == ") + m.expr("bool", room) + ")"
	case 5:
		return "!" + m.expr("bool", room)
	case 6:
		return "(" + m.compared(room) + ")"
	case 7:
		if m.mayCall(methods) {
			return m.receiver(room) + ".k(" + m.expr("I", room) + ")"
		}
	}
	return m.expr("P", room) + ".b"
}

// compared makes a comparison of references.
func (m *maker) compared(room int) string {
	left, sign := m.expr("P", room), m.of(" == ", " != ")
	switch m.below(4) {
	case 0:
		return left + sign + "nil"
	case 1:
		return left + ".n" + sign + left
	case 2:
		return left + ".i" + sign + m.expr("I", room)
	}
	return left + sign + m.expr("P", room)
}

func (m *maker) words(room int) string {
	switch {
	case m.mayCall(f3) && m.below(3) == 0:
		return "f3(" + m.expr("string", room) + ", " + m.expr("bool", room) + ")"
	case m.below(3) == 0:
		return m.expr("P", room) + ".s"
	}
	return "join(" + m.expr("string", room) + ", " + m.expr("string", room) + ")"
}

// object makes a P, which is hardly ever nil.
func (m *maker) object(room int) string {
	switch m.below(8) {
	case 0:
		return "newP(" + m.expr("int", room) + ")"
	case 1:
		if m.mayCall(f1) {
			return "f1(" + m.expr("P", room) + ", " + m.expr("int", room) + ")"
		}
	case 2:
		if m.below(4) == 0 {
			return m.expr("P", room) + m.of(".n", ".i.(P)")
		}
	}
	return m.simple("P") + m.of("", ".next()", ".next().next()")
}
