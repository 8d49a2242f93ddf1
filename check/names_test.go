package check_test

import (
	"testing"

	"turnstone/api"
)

// inBody puts statements into the body of a function with the parameters a and b, among functions that take and give nothing.
func inBody(s string) string {
	return "func v() { }; func g(a int, b bool) { " + s + " }" + plainMain
}

// bodies puts each text into a body, and holds what Check answers against what it is to answer.
func bodies(t *testing.T, promise string, l ...told) {
	t.Helper()
	for _, c := range l {
		checked(t, promise, told{inBody(c.s), c.e})
	}
}

// TestKnown (6.3): where a variable is known, and where not.
func TestKnown(t *testing.T) {
	bodies(t, "6.3",
		told{"print(a); print(b); a = 2; b = true", api.OK},
		told{"print(@x)", api.ErrName},
		told{"print(@x); x := 1", api.ErrName},
		told{"x := @x", api.ErrName},
		told{"var x int = @x", api.ErrName},
		told{"var x int; x = x + a", api.OK},
		told{"x := 1; { print(x); x = 2; { x = 3 } }; x = 4", api.OK},
		told{"{ x := 1 }; print(@x)", api.ErrName},
		told{"{ x := 1; { y := x }; print(@y) }", api.ErrName},
		told{"{ var x int }; { @x = 1 }", api.ErrName},
		told{"if b { x := 1 } else { print(@x) }", api.ErrName},
		told{"if b { } else { x := 1 }; @x = 1", api.ErrName},
		told{"if b { x := 1 } else if @x == 1 { }", api.ErrName},
		told{"for b { x := 1 }; @x = 1", api.ErrName},
		told{"for { @x = 1; x := 1 }", api.ErrName},
		told{"for @x < 1 { x := 1 }", api.ErrName},
		told{"x := 1; for x < 1 { x = x + 1; if x == 2 { x = 3 } else if x == 3 { x = 4 } else { x = 5 } }", api.OK},
		told{"print(@A)", api.ErrName},
		told{"@v = 1", api.ErrName},
		told{"print(@g)", api.ErrName},
		told{"@int0 = 1", api.ErrName})
	checked(t, "6.3",
		told{"func f(x int) { }; func g(y int) { print(@x) }" + plainMain, api.ErrName},
		told{"func f() { x := 1 }; func g() { print(@x) }" + plainMain, api.ErrName},
		told{"func f() { print(@x) }; func g(x int) { }" + plainMain, api.ErrName},
		told{"type P struct { x int }; func (p P) m() int { return @x }" + plainMain, api.ErrName},
		told{"type P struct { x int }; func (p P) m() int { return p.x }" + plainMain, api.OK},
		told{"type P struct { x int }; func (p P) m() int { return @P.x }" + plainMain, api.ErrName})
}

// TestTwice (6.3): what is declared twice in one block, and what hides another.
func TestTwice(t *testing.T) {
	bodies(t, "6.3",
		told{"x := 1; @x := 2", api.ErrTwice},
		told{"var x int; @var x bool", api.ErrTwice},
		told{"x := 1; @var x int", api.ErrTwice},
		told{"var x int; @x := x", api.ErrTwice},
		told{"x := 1; y := 2; { x := 3 }; @x := 4", api.ErrTwice},
		told{"x := 1; var y int = 2; @var y int = x", api.ErrTwice},
		told{"{ x := 1; { }; @x := 1 }", api.ErrTwice},
		told{"for { x := 1; @x := 1 }", api.ErrTwice},
		told{"if b { x := 1; @var x int }", api.ErrTwice},
		told{"if b { } else { x := 1; @x := 1 }", api.ErrTwice},
		told{"a := true; if a { }", api.OK},
		told{"a := true; @a := true", api.ErrTwice},
		told{"var b int = a; b = b + 1", api.OK},
		told{"var a bool = b; { var a int = 1; a = a + 1; { a := \"\"; a = a + a }; a = a - 1 }; a = !a", api.OK},
		told{"x := 1; { x := true; x = !x }; x = -x", api.OK},
		told{"{ x := 1; x = x + 1 }; x := true; { x := \"\"; x = x + x }; x = !x", api.OK},
		told{"x := 1; { x := x + 1; x = x + 1 }", api.OK},
		told{"x := 1; { var x bool = x == 1; x = !x }", api.OK},
		told{"x := 1; { x = 2; x := true; @x := 3 }", api.ErrTwice},
		told{"if b { x := 1 } else { x := true; x = !x }; for { x := \"\"; x = x + x }", api.OK},
		told{"x := 1; X := 2; x0 := 3; var X0 int", api.OK},
		told{"a := 1; { b := @v() }", api.ErrType},
		told{"x := 1; x := @nil", api.ErrType},
		told{"x := 1; var x @Q", api.ErrName},
		told{"x := 1; var x int = @true", api.ErrType})
}

// TestSeparateNames (6.3): functions, variables, types, fields and methods may have the same names.
func TestSeparateNames(t *testing.T) {
	checked(t, "6.3",
		told{"func f(f int) int { return f + f(f) }" + plainMain, api.OK},
		told{"func f() int { f := f(); return f + f() }" + plainMain, api.OK},
		told{"func f() { x := 1; @x() }" + plainMain, api.ErrName},
		told{"func f() { print(@f) }" + plainMain, api.ErrName},
		told{"type f struct { f f }; func (f f) g() f { return f.f.g().f }; func f(f f) f { f = f(f); var g f = f; return g.g() }" + plainMain, api.OK},
		told{"type P struct { }; func f() { @P() }" + plainMain, api.ErrName},
		told{"type P struct { }; func (p P) m() { @m() }" + plainMain, api.ErrName},
		told{"type P struct { }; func (p P) m() { m(); p.m() }; func m() { }" + plainMain, api.OK},
		told{"type P struct { m int }; func f(p P) { p@.m() }; func m() { }" + plainMain, api.ErrName},
		told{"func main() { main() }", api.OK},
		told{"func main() { later(1) }; func later(x int) { }", api.OK})
}

// TestMostLocals (6.3): how many variables a function may have, in all of its blocks.
func TestMostLocals(t *testing.T) {
	left := api.MaxLocals - 2 // a and b are variables too
	bodies(t, "6.3",
		told{repeated("x# := 1; ", left), api.OK},
		told{repeated("x# := 1; ", left) + "@x := 1", api.ErrCount},
		told{repeated("x# := 1; ", left) + "@var x int = 1", api.ErrCount},
		told{repeated("var x# int; ", left) + "@x := 1", api.ErrCount},
		told{repeated("var x# int; ", left), api.OK},
		told{repeated("{ x := # }; ", left), api.OK},
		told{repeated("{ x := # }; ", left) + "@var x bool", api.ErrCount},
		told{repeated("if b { x := # } else { y := # }; ", left/2), api.OK},
		told{repeated("if b { x := # } else { y := # }; ", left/2) + "for { @x := 1 }", api.ErrCount},
		told{repeated("x# := 1; ", left) + "@x0 := 1", api.ErrTwice},
		told{repeated("x# := 1; ", left) + "@var x5 int", api.ErrTwice},
		told{repeated("x# := 1; ", left) + "{ @x0 := 1 }", api.ErrCount},
		told{repeated("x# := 1; ", left) + "x := @nil", api.ErrType},
		told{repeated("x# := 1; ", left) + "var x int = @nil", api.ErrType},
		told{repeated("x# := 1; ", left) + "x0 = 1; a = x0; { b = false }", api.OK},
		told{repeated("x# := 1; ", left) + "x0 = 1; { @b := false }", api.ErrCount})
	checked(t, "6.3",
		told{"func f() { " + repeated("x# := 1; ", 40) + "}; func g() { " + repeated("x# := 1; ", 40) + "}" + plainMain, api.OK},
		told{"func f() { " + repeated("x# := 1; ", 40) + "@x := 1 }" + plainMain, api.ErrCount},
		told{"type P struct { }; func (p P) f(a int) { " + repeated("x# := 1; ", 38) + "}" + plainMain, api.OK},
		told{"type P struct { }; func (p P) f(a int) { " + repeated("x# := 1; ", 38) + "@x := 1 }" + plainMain, api.ErrCount},
		told{"func f(a int, b int, c int, d int, e int, f int, g int, h int) { " + repeated("x# := 1; ", 32) + "@x := 1 }" + plainMain, api.ErrCount},
		told{"func f(a int, b int, c int, d int, e int, f int, g int, h int) { " + repeated("x# := 1; ", 32) + "}" + plainMain, api.OK})
}

// TestParamsAroundBody (6.3): the body is an inner block, so that each parameter may be declared again there, once.
func TestParamsAroundBody(t *testing.T) {
	checked(t, "6.3",
		told{"type P struct { }; func (p P) f(a int) { p := a; a := p; p = a }" + plainMain, api.OK},
		told{"type P struct { }; func (p P) f(a int) { var p bool; p = true; @var p bool }" + plainMain, api.ErrTwice},
		told{"type P struct { }; func (p P) f(a int) P { return p }" + plainMain, api.OK},
		told{"type P struct { }; func (p P) f(a int) P { return @a }" + plainMain, api.ErrType},
		told{"type P struct { }; func (p P) f(a int, b bool, c string) { a = 1; b = true; c = \"\"; p = nil }" + plainMain, api.OK},
		told{"type P struct { }; func (p P) f(a int, b bool, c string) { a = 1; b = true; c = \"\"; c = @b }" + plainMain, api.ErrType})
}
