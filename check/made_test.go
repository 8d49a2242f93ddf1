package check_test

import (
	"strings"
)

// stir is a source of numbers that is the same in every run.
type stir uint64

func (s *stir) below(n int) int {
	*s = *s*6364136223846793005 + 1442695040888963407
	return int(uint64(*s) >> 33 % uint64(n))
}

func (s *stir) of(l ...string) string {
	return l[s.below(len(l))]
}

// call is what a function, or a method of a maker's types, takes and gives.
type call struct {
	owner, name, result string
	params              []string
}

// variable is one that a maker declared in a block.
type variable struct {
	name, of string
	block    int
}

// maker puts together texts that are mostly programs; now and then it slips.
type maker struct {
	stir
	rare   int // one in how many choices is a slip
	fields map[string][]string
	faces  map[string][]call
	calls  []call
	vars   []variable
	block  int
	loops  int
	result string
	decls  []string
}

func (m *maker) slips() bool {
	return m.below(m.rare) == 0
}

// value returns a type that a variable may have.
func (m *maker) value() string {
	if m.slips() {
		return m.of("D", "[]D", "[][]string", "H")
	}
	switch m.below(8) {
	case 0, 1:
		return m.of("A", "B", "C")
	case 2:
		return m.of("F", "G", "E")
	case 3:
		return "[]" + m.of("int", "A", "F", "[]int", "bool")
	}
	return m.of("int", "int", "bool", "string")
}

func (m *maker) values(most int) []string {
	var l []string
	for range m.below(most + 1) {
		l = append(l, m.value())
	}
	return l
}

// text makes a whole text.
func (m *maker) text() string {
	m.fields, m.faces, m.calls, m.decls = map[string][]string{}, map[string][]call{}, nil, nil
	m.faces["F"] = []call{{name: "m", params: []string{"int"}, result: "int"}}
	m.faces["G"] = []call{{name: "k", params: m.values(2)}}
	for _, owner := range []string{"A", "B", "C"} {
		for _, name := range []string{"x", "y", "z"} {
			if m.below(3) > 0 {
				m.fields[owner] = append(m.fields[owner], name, m.value())
			}
		}
		for _, asked := range append(m.faces["F"], m.faces["G"]...) {
			if m.below(2) == 0 {
				asked.owner = owner
				m.calls = append(m.calls, asked)
			}
		}
	}
	for _, name := range []string{"f", "g", "h"} {
		m.calls = append(m.calls, call{name: name, params: m.values(3), result: m.of("", "int", m.value())})
	}
	m.calls = append(m.calls, call{name: "main"})
	m.typeDecls()
	for _, c := range m.calls {
		m.decls = append(m.decls, m.function(c))
	}
	m.shuffle()
	return strings.Join(m.decls, "\n")
}

func (m *maker) shuffle() {
	for i := range m.decls {
		j := m.below(i + 1)
		m.decls[i], m.decls[j] = m.decls[j], m.decls[i]
	}
	switch {
	case m.slips():
		m.decls = m.decls[1:]
	case m.slips():
		m.decls = append(m.decls, m.decls[0])
	}
}

func (m *maker) typeDecls() {
	for _, owner := range []string{"A", "B", "C"} {
		s := "type " + owner + " struct {"
		for i := 0; i < len(m.fields[owner]); i += 2 {
			s += " " + m.named(m.fields[owner][i], "x", "k") + " " + m.fields[owner][i+1] + ";"
		}
		m.decls = append(m.decls, s+" }")
	}
	for _, owner := range []string{"F", "G", "E"} {
		s := "type " + owner + " interface {"
		for _, c := range m.faces[owner] {
			s += " " + c.name + "(" + strings.Join(c.params, ", ") + ") " + c.result + ";"
		}
		m.decls = append(m.decls, s+" }")
	}
}

// named returns the name, or by a slip another one.
func (m *maker) named(name string, others ...string) string {
	if m.slips() {
		return m.of(others...)
	}
	return name
}

func (m *maker) function(c call) string {
	m.vars, m.block, m.loops, m.result = nil, 0, 0, c.result
	s := "func "
	if c.owner != "" {
		s += "(" + m.param("self", c.owner) + ") "
	}
	var params []string
	for i, of := range c.params {
		params = append(params, m.param(string(rune('a'+i)), of))
	}
	s += m.named(c.name, "f", "m", "x") + "(" + strings.Join(params, ", ") + ") " + c.result + " "
	return s + m.braces(4, c.result != "")
}

func (m *maker) param(name, of string) string {
	name = m.named(name, "a", "self")
	m.vars = append(m.vars, variable{name, of, 0})
	return name + " " + of
}

// braces makes a block, which ends with a return if it is to leave the function.
func (m *maker) braces(room int, leaves bool) string {
	m.block++
	known := len(m.vars)
	s := "{ "
	for range m.below(4) {
		s += m.stmt(room-1) + "; "
	}
	if leaves && !m.slips() {
		s += m.leaving(room - 1)
	}
	m.vars = m.vars[:known]
	m.block--
	return s + " }"
}

func (m *maker) leaving(room int) string {
	switch {
	case room > 0 && m.below(4) == 0:
		return "if " + m.expr("bool", 1) + " " + m.braces(room, true) + " else " + m.braces(room, true)
	case room > 0 && m.below(8) == 0:
		m.loops++
		defer func() { m.loops-- }()
		return "for " + m.braces(room, m.below(2) == 0)
	case room > 0 && m.below(8) == 0:
		return m.braces(room, true)
	}
	return m.returning()
}

func (m *maker) returning() string {
	if m.result == "" != m.slips() {
		return "return"
	}
	if m.result == "" {
		return "return " + m.expr(m.value(), 2)
	}
	return "return " + m.expr(m.result, 2)
}

func (m *maker) stmt(room int) string {
	switch m.below(12) {
	case 0:
		of := m.value()
		s := "var " + m.fresh() + " " + of
		if m.below(2) == 0 {
			s += " = " + m.expr(of, 3)
		}
		return s + m.let(s, of)
	case 1, 2:
		of := m.value()
		s := m.fresh() + " := " + m.typed(of, 3)
		return s + m.let("var "+s, of)
	case 3, 4:
		of := m.value()
		return m.place(of) + " = " + m.expr(of, 3)
	case 5:
		return "print(" + m.expr(m.of("int", "bool", "string"), 3) + ")"
	case 6, 7:
		return m.calling("?", 2)
	case 8:
		if m.loops > 0 || m.slips() {
			return m.of("break", "continue")
		}
	case 9:
		if m.slips() {
			return m.expr("int", 2)
		}
		return m.returning()
	}
	if room <= 0 {
		return "print(1)"
	}
	return m.nested(room)
}

func (m *maker) nested(room int) string {
	switch m.below(4) {
	case 0:
		return m.braces(room, false)
	case 1:
		return "if " + m.expr("bool", 3) + " " + m.braces(room, m.below(3) == 0)
	case 2:
		return "if " + m.expr("bool", 3) + " " + m.braces(room, false) + " else " + m.braces(room, false)
	}
	m.loops++
	defer func() { m.loops-- }()
	return "for " + m.of("", m.expr("bool", 3)) + " " + m.braces(room, false)
}

// fresh returns a name that is not declared in this block, unless it slips.
func (m *maker) fresh() string {
	name := m.of("a", "b", "c", "d", "e")
	for _, v := range m.vars {
		if v.name == name && v.block == m.block && !m.slips() {
			return m.of("p", "q", "r") + m.of("0", "1", "2", "3", "4", "5")
		}
	}
	return name
}

// let keeps what a statement declares, which begins with var and a name.
func (m *maker) let(s, of string) string {
	m.vars = append(m.vars, variable{strings.Fields(s)[1], of, m.block})
	return ""
}
