// Package samples makes texts of programs, with which the tests of other packages are tried.
package samples

import (
	"strconv"
	"strings"
)

// Text returns the text of a program that has something to do: its loops end, its calls hardly ever go too deep,
// and few of its references are nil. Each number has a text of its own, the same each time.
func Text(n int) string {
	m := &maker{state: uint64(n)}
	decls := []string{prelude}
	for level, c := range calls() {
		m.level = level
		decls = append(decls, m.function(c))
	}
	return strings.Join(decls, "\n") + "\n"
}

// prelude is what all texts have in common. Its functions keep an index in its range, a text short, and a field from being nil.
const prelude = `type P struct { x int; b bool; s string; n P; l []int; i I; q Q }
type Q struct { x int; y int }
type I interface { m(int) int; k(I) bool }
func idx(i int, n int) int { if n < 1 { return 0 }; i = i % n; if i < 0 { return i + n }; return i }
func join(a string, b string) string { if len(a) + len(b) > 9 { return b }; return a + b }
func newP(x int) P { p := new(P); p.x = x; p.s = "p"; p.l = make([]int, 4); p.q = new(Q); p.i = p.q; return p }
func (p P) next() P { if p.n == nil { return p }; return p.n }
func sum(n int) int { if n < 1 { return 0 }; return n + sum(n - 1) }`

// variable is a parameter or a local. The count of a loop is fixed: nothing else sets it, so that the loop ends.
type variable struct {
	name, of string
	fixed    bool
}

// call is a function, or a method of an owner.
type call struct {
	owner, name, result string
	params              []variable
}

// calls are the functions whose bodies are made. Each calls only later ones, so that calls end.
func calls() []call {
	return []call{
		{name: "main"},
		{name: "f0", result: "int", params: params("a int", "b int")},
		{name: "f1", result: "P", params: params("p P", "a int")},
		{name: "f2", result: "int", params: params("i I", "l []int")},
		{name: "f3", result: "string", params: params("s string", "b bool")},
		{name: "f4", params: params("a int")},
		{owner: "P", name: "m", result: "int", params: params("a int")},
		{owner: "Q", name: "m", result: "int", params: params("a int")},
		{owner: "P", name: "k", result: "bool", params: params("i I")},
		{owner: "Q", name: "k", result: "bool", params: params("i I")},
	}
}

// The levels of those functions that others call.
const (
	f0 = 1 + iota
	f1
	f2
	f3
	f4
	methods
)

func params(l ...string) []variable {
	to := make([]variable, len(l))
	for i, s := range l {
		name, of, _ := strings.Cut(s, " ")
		to[i] = variable{name: name, of: of}
	}
	return to
}

// maker makes the text of one program.
type maker struct {
	state  uint64
	level  int        // of the function that is made
	result string     // its result
	vars   []variable // those that are known, the innermost last
	count  int        // how many names were declared in it
	parts  int        // how many expressions it has
	loops  int        // how many loops are open
}

// below returns a number from 0 to n - 1.
func (m *maker) below(n int) int {
	m.state = m.state*6364136223846793005 + 1442695040888963407
	return int(m.state >> 33 % uint64(n))
}

func (m *maker) of(l ...string) string {
	return l[m.below(len(l))]
}

// mayCall reports whether the function that is made may call the one of a level. Now and then a method calls a method, whatever comes of it.
func (m *maker) mayCall(level int) bool {
	if m.level >= methods && level == methods {
		return m.below(40) == 0
	}
	return level > m.level
}

func (m *maker) function(c call) string {
	m.vars, m.count, m.parts, m.loops, m.result = nil, 0, 0, 0, c.result
	head := "func "
	if c.owner != "" {
		head += "(self " + c.owner + ") "
		m.vars = append(m.vars, variable{name: "self", of: c.owner})
	}
	var l []string
	for _, p := range c.params {
		m.vars = append(m.vars, p)
		l = append(l, p.name+" "+p.of)
	}
	body := m.statements(3, 3+m.below(4))
	if c.result != "" {
		body += "return " + m.expr(c.result, 2)
	}
	return head + c.name + "(" + strings.Join(l, ", ") + ") " + c.result + " {\n" + body + "\n}"
}

// fresh declares a variable of a type under a name that no other has in this function.
func (m *maker) fresh(of string, fixed bool) string {
	m.count++
	name := "v" + strconv.Itoa(m.count)
	m.vars = append(m.vars, variable{name: name, of: of, fixed: fixed})
	return name
}

// known returns a variable of a type, and whether there is one; to be set, it must not be fixed.
func (m *maker) known(of string, set bool) (string, bool) {
	var l []string
	for _, v := range m.vars {
		if v.of == of && !(set && v.fixed) {
			l = append(l, v.name)
		}
	}
	if len(l) == 0 {
		return "", false
	}
	return m.of(l...), true
}
