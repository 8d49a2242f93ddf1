package compile_test

import (
	"strconv"
	"strings"
)

// stir is a source of numbers that is the same in every run.
type stir uint64

func (s *stir) below(n int) int {
	*s = *s*6364136223846793005 + 1442695040888963407
	return int(uint64(*s) >> 33 % uint64(n))
}

func (s *stir) of(l ...string) string {
	return l[s.below(len(l))]
}

// call is what a function, or a method of an owner, takes and gives.
type call struct {
	owner, name, result string
	params              []string
}

// named is a variable or a field.
type named struct {
	owner, name, of string
}

// maker puts together texts that are programs.
type maker struct {
	stir
	fields []named
	calls  []call
	vars   []named // those that are known, the innermost last
	count  int     // how many names were declared in this function
	loops  int
	result string
}

// The structs A, B and C, of which A has the methods of all interfaces, and the interfaces F, G and E.
func (m *maker) value() string {
	switch m.below(8) {
	case 0, 1:
		return m.of("A", "B", "C")
	case 2:
		return m.of("F", "G", "E")
	case 3:
		return "[]" + m.of("int", "bool", "string", "A", "F", "[]int", "[]B")
	}
	return m.of("int", "int", "bool", "string")
}

func (m *maker) values(most int) []string {
	var l []string
	for range m.below(most + 1) {
		l = append(l, m.value())
	}
	return l
}

// text makes a whole text.
func (m *maker) text() string {
	m.fields, m.calls = nil, nil
	for _, owner := range []string{"A", "B", "C"} {
		for i := range m.below(5) {
			m.fields = append(m.fields, named{owner, "x" + strconv.Itoa(i), m.value()})
		}
	}
	asked := []call{
		{owner: "F", name: "m", params: []string{"int"}, result: "int"},
		{owner: "F", name: "n", params: m.values(2), result: m.value()},
		{owner: "G", name: "k", params: m.values(3)},
	}
	for _, c := range asked {
		m.calls = append(m.calls, c)
		c.owner = "A"
		m.calls = append(m.calls, c)
	}
	m.calls = append(m.calls, call{owner: "B", name: "m", params: m.values(2), result: m.value()}, call{name: "main"})
	for _, name := range []string{"f", "g", "h"} {
		m.calls = append(m.calls, call{name: name, params: m.values(4), result: m.of("", "int", m.value(), m.value())})
	}
	decls := m.typeDecls()
	for _, c := range m.calls {
		if c.owner != "F" && c.owner != "G" {
			decls = append(decls, m.function(c))
		}
	}
	for i := range decls {
		j := m.below(i + 1)
		decls[i], decls[j] = decls[j], decls[i]
	}
	return strings.Join(decls, "\n")
}

func (m *maker) typeDecls() []string {
	parts := map[string]string{}
	for _, f := range m.fields {
		parts[f.owner] += " " + f.name + " " + f.of + ";"
	}
	for _, c := range m.calls {
		if c.owner == "F" || c.owner == "G" {
			parts[c.owner] += " " + c.name + "(" + strings.Join(c.params, ", ") + ") " + c.result + ";"
		}
	}
	var l []string
	for _, owner := range []string{"A", "B", "C"} {
		l = append(l, "type "+owner+" struct {"+parts[owner]+" }")
	}
	for _, owner := range []string{"F", "G", "E"} {
		l = append(l, "type "+owner+" interface {"+parts[owner]+" }")
	}
	return l
}

func (m *maker) function(c call) string {
	m.vars, m.count, m.loops, m.result = nil, 0, 0, c.result
	receiver := ""
	if c.owner != "" {
		receiver = "(" + m.param("self", c.owner) + ") "
	}
	var params []string
	for i, of := range c.params {
		params = append(params, m.param(string(rune('a'+i)), of))
	}
	return "func " + receiver + c.name + "(" + strings.Join(params, ", ") + ") " + c.result + " " + m.braces(3, c.result != "")
}

func (m *maker) param(name, of string) string {
	m.vars = append(m.vars, named{"", name, of})
	return name + " " + of
}

// braces makes a block, which ends with what leaves the function if that is asked.
func (m *maker) braces(room int, leaves bool) string {
	known := len(m.vars)
	s := "{ "
	for range m.below(5) {
		s += m.stmt(room-1, known) + "; "
	}
	if leaves {
		s += m.leaving(room - 1)
	}
	m.vars = m.vars[:known]
	return s + " }"
}

func (m *maker) leaving(room int) string {
	switch {
	case room > 0 && m.below(4) == 0:
		return "if " + m.expr("bool", 1) + " " + m.braces(room, true) + " else " + m.braces(room, true)
	case room > 0 && m.below(8) == 0:
		return "for { continue }"
	case room > 0 && m.below(8) == 0:
		return m.braces(room, true)
	}
	return m.returning()
}

func (m *maker) returning() string {
	if m.result == "" {
		return "return"
	}
	return "return " + m.expr(m.result, 2)
}

// stmt makes a statement in a block whose variables stand in vars from an index on.
func (m *maker) stmt(room, block int) string {
	of := m.value()
	switch m.below(12) {
	case 0, 1, 2:
		return m.declaring(of, block)
	case 3, 4:
		return m.place(of) + " = " + m.expr(of, 3)
	case 5:
		return "print(" + m.expr(m.of("int", "bool", "string"), 3) + ")"
	case 6, 7:
		return m.calling(m.calls[m.below(len(m.calls))], 3)
	case 8:
		if m.loops > 0 {
			return m.of("break", "continue")
		}
	case 9:
		return m.returning()
	}
	if room <= 0 {
		return "print(1)"
	}
	return m.nested(room)
}

func (m *maker) declaring(of string, block int) string {
	name := m.of("a", "b", "c", "v0", "v1", "v2")
	for _, v := range m.vars[block:] {
		if v.name == name {
			name = "u" + strconv.Itoa(m.count)
		}
	}
	m.count++
	s := name + " := " + m.typed(of, 3)
	switch m.below(3) {
	case 0:
		s = "var " + name + " " + of
	case 1:
		s = "var " + name + " " + of + " = " + m.expr(of, 3)
	}
	m.vars = append(m.vars, named{"", name, of})
	return s
}

func (m *maker) nested(room int) string {
	switch m.below(5) {
	case 0:
		return m.braces(room, false)
	case 1:
		return "if " + m.expr("bool", 3) + " " + m.braces(room, false)
	case 2:
		return "if " + m.expr("bool", 3) + " " + m.braces(room, false) + " else " + m.braces(room, false)
	case 3:
		return "if " + m.expr("bool", 3) + " " + m.braces(room, false) + " else if " + m.expr("bool", 2) + " " + m.braces(room, false) + m.of("", " else "+m.braces(room, false))
	}
	head := "for " + m.of("", m.expr("bool", 3)) + " "
	m.loops++
	defer func() { m.loops-- }()
	return head + m.braces(room, false)
}

// visible returns the names of the variables of a type that are known, the hidden ones left out.
func (m *maker) visible(of string) []string {
	var l []string
	seen := map[string]int{}
	for i := len(m.vars) - 1; i >= 0; i-- {
		v := m.vars[i]
		seen[v.name]++
		if v.of == of && seen[v.name] == 1 {
			l = append(l, v.name)
		}
	}
	return l
}

// fieldOf returns a field of a type, if there is one.
func (m *maker) fieldOf(of string) (named, bool) {
	var l []named
	for _, f := range m.fields {
		if f.of == of {
			l = append(l, f)
		}
	}
	if len(l) == 0 {
		return named{}, false
	}
	return l[m.below(len(l))], true
}

// place makes what may stand on the left of = for a type.
func (m *maker) place(of string) string {
	if l := m.visible(of); len(l) > 0 && m.below(2) == 0 {
		return m.of(l...)
	}
	if f, ok := m.fieldOf(of); ok && m.below(3) > 0 {
		return m.typed(f.owner, 2) + "." + f.name
	}
	return m.typed("[]"+of, 2) + "[" + m.expr("int", 2) + "]"
}

// expr makes an expression that fits a type.
func (m *maker) expr(of string, room int) string {
	if of == "int" || of == "bool" || of == "string" || m.below(3) > 0 {
		return m.typed(of, room)
	}
	if strings.Contains("F G E", of) && m.below(2) == 0 {
		return m.typed("A", room)
	}
	return "nil"
}

// typed makes an expression of exactly this type.
func (m *maker) typed(of string, room int) string {
	if l := m.visible(of); len(l) > 0 && (room <= 0 || m.below(2) == 0) {
		return m.of(l...)
	}
	if room > 0 {
		if s := m.gotten(of, room-1); s != "" {
			return s
		}
	}
	switch of {
	case "int":
		return m.number(room - 1)
	case "bool":
		return m.truth(room - 1)
	case "string":
		if room <= 0 {
			return m.of(`"ab"`, `"c"`, `""`, `"\n"`, `"m"`)
		}
		return "(" + m.expr(of, room-1) + " + " + m.expr(of, room-1) + ")"
	case "A", "B", "C":
		return "new(" + of + ")"
	}
	if strings.HasPrefix(of, "[]") {
		return "make(" + of + ", " + m.expr("int", room-1) + ")"
	}
	// An interface has no expression that begins it but an element of a slice.
	return "make([]" + of + ", 1)[0]"
}

// gotten makes an expression that takes a value of a type from somewhere, or nothing.
func (m *maker) gotten(of string, room int) string {
	switch m.below(6) {
	case 0:
		if f, ok := m.fieldOf(of); ok {
			return m.typed(f.owner, room) + "." + f.name
		}
	case 1:
		return m.typed("[]"+of, room) + "[" + m.expr("int", room) + "]"
	case 2:
		if of == "A" {
			return m.typed(m.of("F", "G", "E"), room) + ".(A)"
		}
		if of == "B" || of == "C" {
			return m.typed("E", room) + ".(" + of + ")"
		}
	case 3:
		first := m.below(len(m.calls))
		for i := range m.calls {
			if c := m.calls[(first+i)%len(m.calls)]; c.result == of {
				return m.calling(c, room)
			}
		}
	}
	return ""
}

func (m *maker) number(room int) string {
	if room <= 0 {
		return m.of("0", "1", "7", "9223372036854775807")
	}
	switch m.below(6) {
	case 0:
		return "-" + m.expr("int", room)
	case 1, 2:
		return "(" + m.expr("int", room) + m.of(" + ", " - ", " * ", " / ", " % ") + m.expr("int", room) + ")"
	case 3:
		return "len(" + m.typed(m.of("string", "[]int", "[]A", "[][]int"), room) + ")"
	case 4:
		return m.typed("string", room) + "[" + m.expr("int", room) + "]"
	}
	return m.of("input()", "3")
}

func (m *maker) truth(room int) string {
	if room <= 0 {
		return m.of("true", "false")
	}
	of := m.of("A", "B", "F", "E", "[]int", "[][]B")
	switch m.below(8) {
	case 0:
		return "!" + m.expr("bool", room)
	case 1, 2:
		return "(" + m.expr("bool", room) + m.of(" && ", " || ", " == ", " != ") + m.expr("bool", room) + ")"
	case 3, 4:
		of = m.of("int", "string")
		return "(" + m.expr(of, room) + m.of(" < ", " <= ", " > ", " >= ", " == ", " != ") + m.expr(of, room) + ")"
	case 5:
		return "(nil" + m.of(" == ", " != ") + m.typed(of, room) + ")"
	case 6:
		return "(" + m.typed(of, room) + m.of(" == ", " != ") + "nil)"
	}
	of, other := m.of("A", "F", "G", "E"), "A"
	if m.below(2) == 0 {
		other = of
	}
	return "(" + m.typed(of, room) + m.of(" == ", " != ") + m.typed(other, room) + ")"
}

func (m *maker) calling(c call, room int) string {
	s := c.name + "("
	if c.owner != "" {
		s = m.typed(c.owner, room-1) + "." + s
	}
	for i, p := range c.params {
		if i > 0 {
			s += ", "
		}
		s += m.expr(p, room-1)
	}
	return s + ")"
}
