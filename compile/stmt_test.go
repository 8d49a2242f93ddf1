package compile_test

import (
	"strings"
	"testing"
)

// TestVar (8.3): with its Expr, and without one, of each kind of type.
func TestVar(t *testing.T) {
	wantCode(t, "8.3",
		coded{"var x int; var y bool; var z string", "Num 0, Store 8, Bit 0, Store 9, Null 3, Store 10, Ret 0"},
		coded{"var w P; var x Q; var y I; var z E", "Null 5, Store 8, Null 6, Store 9, Null 7, Store 10, Null 8, Store 11, Ret 0"},
		coded{"var x []int; var y [][]int; var z []bool", "Null 9, Store 8, Null 11, Store 9, Null 14, Store 10, Ret 0"},
		coded{"var x int = 5; var y bool = true; var z string = s", "Num 0, Store 8, Bit 1, Store 9, Load 2, Store 10, Ret 0"},
		coded{"var x I = p; var y E = i.(P); var z []int = l", "Load 3, Store 8, Load 5, Cast 5, Store 9, Load 7, Store 10, Ret 0"},
		coded{"var x int; var y int = 0", "Num 0, Store 8, Num 0, Store 9, Ret 0"},
		coded{"var a int = a; a = 1", "Load 0, Store 8, Num 0, Store 8, Ret 0"},
		coded{"var a string = s; print(a)", "Load 2, Store 8, Load 8, Print 3, Ret 0"},
		coded{"for { var x int; x = 1 }", "Num 0, Store 8, Num 1, Store 8, Jump 0, Ret 0"},
		coded{"for b { var x P; x = p }", "Load 1, JumpNo 7, Null 5, Store 8, Load 3, Store 8, Jump 0, Ret 0"})
}

// TestDefine (8.3): the right side, which does not know the new name.
func TestDefine(t *testing.T) {
	wantCode(t, "8.3",
		coded{"x := a; y := x", "Load 0, Store 8, Load 8, Store 9, Ret 0"},
		coded{"a := a + a; a = a", "Load 0, Load 0, Add, Store 8, Load 8, Store 8, Ret 0"},
		coded{"a := s; { a := a; print(a) }; print(a)", "Load 2, Store 8, Load 8, Store 9, Load 9, Print 3, Load 8, Print 3, Ret 0"},
		coded{"(x) := 1; x = 2", "Num 0, Store 8, Num 1, Store 8, Ret 0"},
		coded{"x := p.i; x.none(); y := i.(P); y.none()", "Load 3, Field 5, Store 8, Load 8, Invoke 0 1, Load 5, Cast 5, Store 9, Load 9, Call 1 1, Ret 0"})
}

// TestNames (8.3): a name stands for what was declared last in the blocks around it, and again for the outer one behind them.
func TestNames(t *testing.T) {
	wantCode(t, "8.3",
		coded{"x := 1; { x := 2; x = 3 }; x = 4", "Num 0, Store 8, Num 1, Store 9, Num 2, Store 9, Num 3, Store 8, Ret 0"},
		coded{"{ a := 1; { a = 2; a := 3; a = 4 }; a = 5 }; a = 6", "Num 0, Store 8, Num 1, Store 8, Num 2, Store 9, Num 3, Store 9, Num 4, Store 8, Num 5, Store 0, Ret 0"},
		coded{"if b { x := 1; x = a } else { x := 2; x = a }; x := 3; x = a",
			"Load 1, JumpNo 7, Num 0, Store 8, Load 0, Store 8, Jump 11, Num 1, Store 9, Load 0, Store 9, Num 2, Store 10, Load 0, Store 10, Ret 0"},
		coded{"for b { a := 1; a = 2 }; a = 3", "Load 1, JumpNo 7, Num 0, Store 8, Num 1, Store 8, Jump 0, Num 2, Store 0, Ret 0"},
		coded{"f := 1; f = f(f)", "Num 0, Store 8, Load 8, Call 4 1, Store 8, Ret 0"})
}

// TestAssign (8.3): to a name, to a field and to an element.
func TestAssign(t *testing.T) {
	wantCode(t, "8.3",
		coded{"a = 1; b = false; s = s; i = p; e = q", "Num 0, Store 0, Bit 0, Store 1, Load 2, Store 2, Load 3, Store 5, Load 4, Store 6, Ret 0"},
		coded{"(a) = 1; ((p.x)) = 1; (l[0]) = 1", "Num 0, Store 0, Load 3, Num 0, SetField 0, Load 7, Num 1, Num 0, SetAt, Ret 0"},
		coded{"p.x = 1; p.ok = b; p.s = s; p.p = p; p.l = l; p.i = p",
			"Load 3, Num 0, SetField 0, Load 3, Load 1, SetField 1, Load 3, Load 2, SetField 2, Load 3, Load 3, SetField 3, Load 3, Load 7, SetField 4, Load 3, Load 3, SetField 5, Ret 0"},
		coded{"p.p.p.x = p.p.x + 1", "Load 3, Field 3, Field 3, Load 3, Field 3, Field 0, Num 0, Add, SetField 0, Ret 0"},
		coded{"l[a] = a; l[1] = l[2]", "Load 7, Load 0, Load 0, SetAt, Load 7, Num 0, Load 7, Num 1, At, SetAt, Ret 0"},
		coded{"q.n[1][2] = 3; q.e[a] = p", "Load 4, Field 1, Num 0, At, Num 1, Num 2, SetAt, Load 4, Field 3, Load 0, Load 3, SetAt, Ret 0"},
		coded{"q.a[1].x = 2; i.(P).p.l[1] = 2", "Load 4, Field 2, Num 0, At, Num 1, SetField 0, Load 5, Cast 5, Field 3, Field 4, Num 0, Num 1, SetAt, Ret 0"},
		coded{"k(b, p, i, l).x = f(1)", "Load 1, Load 3, Load 5, Load 7, Call 5 4, Num 0, Call 4 1, SetField 0, Ret 0"},
		coded{"make([]int, 1)[input()] = input()", "Num 0, Make 9, Input, Input, SetAt, Ret 0"})
}

// TestIf (8.3): without an else, with one, and with else if.
func TestIf(t *testing.T) {
	wantCode(t, "8.3",
		coded{"if b { }", "Load 1, JumpNo 2, Ret 0"},
		coded{"if b { v() }; v()", "Load 1, JumpNo 3, Call 3 0, Call 3 0, Ret 0"},
		coded{"if b { } else { }", "Load 1, JumpNo 3, Jump 3, Ret 0"},
		coded{"if b { v() } else { a = 1 }; v()", "Load 1, JumpNo 4, Call 3 0, Jump 6, Num 0, Store 0, Call 3 0, Ret 0"},
		coded{"if b { a = 1 } else if !b { a = 2 }; v()", "Load 1, JumpNo 5, Num 0, Store 0, Jump 10, Load 1, Not, JumpNo 10, Num 1, Store 0, Call 3 0, Ret 0"},
		coded{"if b { v() } else if b { v() } else if b { v() } else { v() }",
			"Load 1, JumpNo 4, Call 3 0, Jump 13, Load 1, JumpNo 8, Call 3 0, Jump 13, Load 1, JumpNo 12, Call 3 0, Jump 13, Call 3 0, Ret 0"},
		coded{"if b { if b { v() } else { v() } }", "Load 1, JumpNo 7, Load 1, JumpNo 6, Call 3 0, Jump 7, Call 3 0, Ret 0"},
		coded{"if a < 1 { return }", "Load 0, Num 0, Lt, JumpNo 5, Ret 0, Ret 0"},
		coded{"if b { return } else { return }", "Load 1, JumpNo 4, Ret 0, Jump 5, Ret 0, Ret 0"})
}

// TestFor (8.3): with an Expr and without one; break and continue in loops within one another.
func TestFor(t *testing.T) {
	wantCode(t, "8.3",
		coded{"for { }", "Jump 0, Ret 0"},
		coded{"for b { }", "Load 1, JumpNo 3, Jump 0, Ret 0"},
		coded{"v(); for { v() }; v()", "Call 3 0, Call 3 0, Jump 1, Call 3 0, Ret 0"},
		coded{"v(); for b { v() }; v()", "Call 3 0, Load 1, JumpNo 5, Call 3 0, Jump 1, Call 3 0, Ret 0"},
		coded{"for { break }; v()", "Jump 2, Jump 0, Call 3 0, Ret 0"},
		coded{"v(); for { continue }; v()", "Call 3 0, Jump 1, Jump 1, Call 3 0, Ret 0"},
		coded{"for b { break; continue; v() }", "Load 1, JumpNo 6, Jump 6, Jump 0, Call 3 0, Jump 0, Ret 0"},
		coded{"for { for b { break; continue }; continue; break }; v()", "Load 1, JumpNo 5, Jump 5, Jump 0, Jump 0, Jump 0, Jump 8, Jump 0, Call 3 0, Ret 0"},
		coded{"for b { v(); for { if b { break } else { continue } }; if b { { break } }; for { break }; continue }",
			"Load 1, JumpNo 16, Call 3 0, Load 1, JumpNo 7, Jump 9, Jump 8, Jump 3, Jump 3, Load 1, JumpNo 12, Jump 16, Jump 14, Jump 12, Jump 0, Jump 0, Ret 0"},
		coded{"for { for { for { break }; break }; break }", "Jump 2, Jump 0, Jump 4, Jump 0, Jump 6, Jump 0, Ret 0"},
		coded{"for { }; for { }", "Jump 0, Jump 1, Ret 0"},
		coded{"for { return }", "Ret 0, Jump 0, Ret 0"})
}

// TestExprStmt (8.3): the result of a call is taken off the stack, if there is one.
func TestExprStmt(t *testing.T) {
	wantCode(t, "8.3",
		coded{"v()", "Call 3 0, Ret 0"},
		coded{"f(1)", "Num 0, Call 4 1, Pop, Ret 0"},
		coded{"list(); (list())", "Call 6 0, Pop, Call 6 0, Pop, Ret 0"},
		coded{"p.m(1, p)", "Load 3, Num 0, Load 3, Call 0 3, Pop, Ret 0"},
		coded{"p.none()", "Load 3, Call 1 1, Ret 0"},
		coded{"i.m(1, p)", "Load 5, Num 0, Load 3, Invoke 0 3, Pop, Ret 0"},
		coded{"i.none()", "Load 5, Invoke 0 1, Ret 0"})
}

// TestPrint (8.3): of each kind, by the type of what is printed.
func TestPrint(t *testing.T) {
	wantCode(t, "8.3",
		coded{"print(a + 1)", "Load 0, Num 0, Add, Print 1, Ret 0"},
		coded{"print(-a); print(!b)", "Load 0, Neg, Print 1, Load 1, Not, Print 2, Ret 0"},
		coded{"print(a < 1); print(s < s); print(b && b)", "Load 0, Num 0, Lt, Print 2, Load 2, Load 2, TextLt, Print 2, Load 1, JumpNo 12, Load 1, Jump 13, Bit 0, Print 2, Ret 0"},
		coded{"print(s + s)", "Load 2, Load 2, Cat, Print 3, Ret 0"},
		coded{"print(s[0]); print(len(l)); print(f(1))", "Load 2, Num 0, TextAt, Print 1, Load 7, Len, Print 1, Num 1, Call 4 1, Print 1, Ret 0"},
		coded{"print(p.ok); print(p.s); print(q.t[0]); print(p.m(a, p))",
			"Load 3, Field 1, Print 2, Load 3, Field 2, Print 3, Load 4, Field 0, Num 0, At, Print 3, Load 3, Load 0, Load 3, Call 0 3, Print 1, Ret 0"})
}

// TestReturn (8.3), and what stands behind a body (8.2): Ret 0 without a result, and with one a Jump to its own pc.
func TestReturn(t *testing.T) {
	for _, c := range []struct{ f, want string }{
		{"func f() { }", "Ret 0"},
		{"func f() { return }", "Ret 0, Ret 0"},
		{"func f() { return; return }", "Ret 0, Ret 0, Ret 0"},
		{"func f() int { return 5 }", "Num 0, Ret 1, Jump 2"},
		{"func f() bool { return true }", "Bit 1, Ret 1, Jump 2"},
		{"func f(s string) string { return s + s }", "Load 0, Load 0, Cat, Ret 1, Jump 4"},
		{"func f(p P) I { return p }", "Load 0, Ret 1, Jump 2"},
		{"func f() int { return f() }", "Call 0 0, Ret 1, Jump 2"},
		{"func f(c bool) int { if c { return 1 } else { return 2 } }", "Load 0, JumpNo 5, Num 0, Ret 1, Jump 7, Num 1, Ret 1, Jump 7"},
		{"func f(c bool) int { if c { return 1 }; return 2 }", "Load 0, JumpNo 4, Num 0, Ret 1, Num 1, Ret 1, Jump 6"},
		{"func f() int { for { } }", "Jump 0, Jump 1"},
		{"func f(c bool) int { for { if c { return 1 } } }", "Load 0, JumpNo 4, Num 0, Ret 1, Jump 0, Jump 5"},
		{"func f() int { { return 1 } }", "Num 0, Ret 1, Jump 2"},
	} {
		p := program(t, c.f+"; type P struct { }; type I interface { }"+plainMain)
		if got := line(p.Funcs[0]); got != c.want {
			t.Errorf("8.3: the code of %q is %s, not %s", c.f, got, c.want)
		}
		wantSound(t, p)
	}
}

// TestMethods (8.2): the receiver is the first local of a method.
func TestMethods(t *testing.T) {
	p := program(t, "type P struct { x int; y int }; func (p P) sum(q P) int { var p int = p.x; return p + q.y }; func main() { print(new(P).sum(nil)) }")
	if got := line(p.Funcs[0]); got != "Load 0, Field 0, Store 2, Load 2, Load 1, Field 1, Add, Ret 1, Jump 8" {
		t.Errorf("8.2: %s", got)
	}
	if got := line(p.Funcs[1]); got != "New 5, Null 5, Call 0 2, Print 1, Ret 0" {
		t.Errorf("8.2: %s", got)
	}
}

// TestCallsAhead (8.2): functions are called by their numbers, also those that come later in the file.
func TestCallsAhead(t *testing.T) {
	p := program(t, "func main() { b(); a(); new(P).a() }; func a() { }; type P struct { }; func (p P) a() { p.b(); a(); b() }; func (p P) b() { }; func b() { main() }")
	for i, want := range []string{"Call 4 0, Call 1 0, New 5, Call 2 1, Ret 0", "Ret 0", "Load 0, Call 3 1, Call 1 0, Call 4 0, Ret 0", "Ret 0", "Call 0 0, Ret 0"} {
		if got := line(p.Funcs[i]); got != want {
			t.Errorf("8.2: the code of %s is %s, not %s", p.Funcs[i].Name, got, want)
		}
	}
}

// TestNestedBlocks (8.3): a block by itself has no code of its own.
func TestNestedBlocks(t *testing.T) {
	deep := strings.Repeat("{ ", 38) + "v()" + strings.Repeat(" }", 38)
	wantCode(t, "8.3", coded{deep, "Call 3 0, Ret 0"}, coded{"{ }; { { } }", "Ret 0"})
}
