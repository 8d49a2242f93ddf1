package samples

import (
	"strconv"
	"strings"
)

// maxDeclared is how many names a function declares at most, so that it never has too many locals.
const maxDeclared = 24

// statements makes n statements; those within them are nested room deep at most.
func (m *maker) statements(room, n int) string {
	known := len(m.vars)
	s := ""
	for range n {
		s += m.statement(room) + "\n"
	}
	m.vars = m.vars[:known]
	return s
}

func (m *maker) block(room int) string {
	return "{\n" + m.statements(room-1, 1+m.below(3)) + "}"
}

func (m *maker) statement(room int) string {
	if m.parts > maxParts {
		room = 0
	}
	switch m.below(10) {
	case 0, 1:
		if m.count < maxDeclared {
			return m.declaring()
		}
	case 2, 3:
		return m.setting()
	case 4:
		return m.calling()
	case 5:
		if room > 0 && m.count < maxDeclared {
			return m.loop(room)
		}
	case 6, 7:
		if room > 0 {
			return m.choice(room)
		}
	case 8:
		return m.leaving()
	}
	return "print(" + m.expr(m.of("int", "int", "bool", "string"), 2) + ")"
}

func (m *maker) declaring() string {
	of := m.of("int", "int", "bool", "string", "P", "Q", "I", "[]int")
	// A variable is known only behind its declaration.
	value := m.expr(of, 3)
	switch {
	case of == "I":
		return "var " + m.fresh(of, false) + " I = " + value
	case m.below(8) == 0:
		return "var " + m.fresh(of, false) + " " + of
	}
	return m.fresh(of, false) + " := " + value
}

// setting makes an assignment to a variable, a field or an element.
func (m *maker) setting() string {
	switch m.below(4) {
	case 0:
		field := m.of("x int", "b bool", "s string", "n P", "l []int", "i I", "q Q")
		name, of, _ := strings.Cut(field, " ")
		return m.expr("P", 1) + "." + name + " = " + m.expr(of, 2)
	case 1:
		if l, ok := m.known("[]int", false); ok {
			return l + "[" + m.index(l, 2) + "] = " + m.expr("int", 2)
		}
	}
	of := m.of("int", "int", "int", "bool", "string", "P", "I")
	if name, ok := m.known(of, true); ok {
		return name + " = " + m.expr(of, 3)
	}
	return m.expr("Q", 1) + m.of(".x", ".y") + " = " + m.expr("int", 3)
}

// index makes an index of the slice or text of a name, nearly always in its range.
func (m *maker) index(name string, room int) string {
	if m.below(30) == 0 {
		return m.expr("int", room)
	}
	return "idx(" + m.expr("int", room) + ", len(" + name + "))"
}

// calling makes a call whose result, if there is one, nobody needs.
func (m *maker) calling() string {
	switch {
	case m.mayCall(f4) && m.below(2) == 0:
		return "f4(" + m.expr("int", 2) + ")"
	case m.mayCall(f0) && m.below(2) == 0:
		return "f0(" + m.expr("int", 2) + ", " + m.expr("int", 1) + ")"
	case m.mayCall(methods):
		return m.expr("I", 1) + ".m(" + m.expr("int", 1) + ")"
	}
	return "sum(" + strconv.Itoa(m.below(5)) + ")"
}

// loop makes a loop with a count of its own; those within loops are short.
func (m *maker) loop(room int) string {
	rounds := 2 + m.below(4)
	if m.loops == 0 && m.level == 0 {
		rounds = 5 + m.below(60)
	}
	known := len(m.vars)
	name := m.fresh("int", true)
	m.loops++
	body := m.statements(room-1, 2+m.below(3))
	m.loops--
	m.vars = m.vars[:known]
	return name + " := 0\nfor " + name + " < " + strconv.Itoa(rounds) + " {\n" + name + " = " + name + " + 1\n" + body + "}"
}

func (m *maker) choice(room int) string {
	s := "if " + m.expr("bool", 2) + " " + m.block(room)
	switch m.below(3) {
	case 0:
		return s + " else " + m.block(room)
	case 1:
		return s + " else if " + m.expr("bool", 2) + " " + m.block(room) + " else " + m.block(room)
	}
	return s
}

// leaving makes a way out of a loop or of the function, which is not always taken.
func (m *maker) leaving() string {
	s := "if " + m.expr("bool", 2) + " { "
	switch {
	case m.loops > 0 && m.below(4) > 0:
		return s + m.of("break", "continue") + " }"
	case m.result == "":
		return s + "return }"
	}
	return s + "return " + m.expr(m.result, 2) + " }"
}
