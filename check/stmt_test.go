package check_test

import (
	"strings"
	"testing"

	"turnstone/api"
)

// TestVar (6.5): its type, its Expr, and then its name.
func TestVar(t *testing.T) {
	sides(t, "6.5",
		told{"var x int", api.OK},
		told{"var x int = 1; x = 2", api.OK},
		told{"var x @R", api.ErrName},
		told{"var x [][]@R = q", api.ErrName},
		told{"var x int = @q", api.ErrName},
		told{"var x int = @true", api.ErrType},
		told{"var x bool = @nil", api.ErrType},
		told{"var x string = 1 @+ 2", api.ErrType},
		told{"var x string = @1", api.ErrType},
		told{"var x P = nil; x = nil", api.OK},
		told{"var x P = new(P); x = p", api.OK},
		told{"var x P = @new(S)", api.ErrType},
		told{"var x P = @i", api.ErrType},
		told{"var x []P = nil; x = make([]P, 1)", api.OK},
		told{"var x []P = @make([]S, 1)", api.ErrType},
		told{"var x []int = @make([][]int, 1)", api.ErrType},
		told{"var x []I = @make([]P, 1)", api.ErrType},
		told{"var x I = p; x = i; x = nil", api.OK},
		told{"var x I = @new(S)", api.ErrType},
		told{"var x E = new(S); x = p", api.OK},
		told{"var x E = @i", api.ErrType},
		told{"var x E = @1", api.ErrType},
		told{"var x int = @v()", api.ErrType},
		told{"var x E = @v()", api.ErrType},
		told{"var x int = f(1)", api.OK},
		told{"var p int = @p", api.ErrType},
		told{"var x int = 1; var x @R", api.ErrName})
}

// sides puts each text into a body that knows types, functions and variables of many kinds.
func sides(t *testing.T, promise string, l ...told) {
	t.Helper()
	for _, c := range l {
		checked(t, promise, told{around + "func g(p P, i I, l []int, e E) { " + c.s + " }" + plainMain, c.e})
	}
}

const around = `type P struct { x int; p P; i I; l []int; s string }
type S struct { }
type I interface { m(int, I) int; none() }
type E interface { }
func (p P) m(a int, i I) int { return a }
func (p P) none() { }
func v() { }
func f(a int) int { return a }
func k(a int, p P, i I) P { return p }
`

// TestDefine (6.5): the left side is a name, and the right one has a type.
func TestDefine(t *testing.T) {
	sides(t, "6.5",
		told{"x := 1; x = x + 1", api.OK},
		told{"x := \"a\"; x = x + x; y := x[0] + 1; z := y == 1 && true; w := !z; w = z", api.OK},
		told{"x := p; x = x.p; y := i; y = x; z := l; z[0] = 1", api.OK},
		told{"x := p; x = @i", api.ErrType},
		told{"x := make([]I, 1); x[0] = p", api.OK},
		told{"x := @nil", api.ErrType},
		told{"x := @v()", api.ErrType},
		told{"x := p@.none()", api.ErrType},
		told{"x := @q", api.ErrName},
		told{"1 @:= 2", api.ErrPlace},
		told{"1 @:= q", api.ErrPlace},
		told{"q.x @:= nil", api.ErrPlace},
		told{"p.x @:= 1", api.ErrPlace},
		told{"l[0] @:= 1", api.ErrPlace},
		told{"f(1) @:= 1", api.ErrPlace},
		told{"nil @:= 1", api.ErrPlace},
		told{"(x) := 1; x = 2", api.OK},
		told{"x := 1; @x := true", api.ErrTwice},
		told{"p := p; p = nil; @p := p", api.ErrTwice})
}

// TestAssign (6.5): the left side, its place, and then the right side.
func TestAssign(t *testing.T) {
	sides(t, "6.5",
		told{"p = nil; i = nil; l = nil; e = nil", api.OK},
		told{"p.x = 1; p.p = p; p.i = p; p.l = l; p.s = p.s + \"a\"; p.p.p.x = l[0]", api.OK},
		told{"l[0] = 1; p.l[l[0]] = 2; make([]int, 1)[0] = 3; new(P).x = 4; k(1, p, i).x = 5; i.(P).x = 6", api.OK},
		told{"e = p; e = new(S); i = p; i = i", api.OK},
		told{"(p) = nil; (p.x) = 1; (l[0]) = 1", api.OK},
		told{"@q = 1", api.ErrName},
		told{"@q = r", api.ErrName},
		told{"p = @q", api.ErrName},
		told{"@q.x = 1", api.ErrName},
		told{"p@.y = r", api.ErrName},
		told{"l@.x = r", api.ErrType},
		told{"l@[true] = r", api.ErrType},
		told{"p@[0] = r", api.ErrType},
		told{"l[@q] = r", api.ErrName},
		told{"1 @= r", api.ErrPlace},
		told{"nil @= r", api.ErrPlace},
		told{"f(1) @= r", api.ErrPlace},
		told{"@f() = r", api.ErrCount},
		told{"f(@q) = r", api.ErrName},
		told{"v() @= r", api.ErrPlace},
		told{"p.none() @= r", api.ErrPlace},
		told{"-1 @= r", api.ErrPlace},
		told{"1 + 1 @= r", api.ErrPlace},
		told{"1 @+ true = r", api.ErrType},
		told{"len(l) @= r", api.ErrPlace},
		told{"input() @= r", api.ErrPlace},
		told{"new(P) @= p", api.ErrPlace},
		told{"make([]int, 1) @= l", api.ErrPlace},
		told{"i.(P) @= p", api.ErrPlace},
		told{"\"a\"[0] @= r", api.ErrPlace},
		told{"p.s[0] @= 1", api.ErrPlace},
		told{"p.s@[true] = 1", api.ErrType},
		told{"l[0] = @true", api.ErrType},
		told{"l[0] = @nil", api.ErrType},
		told{"p.x = @\"a\"", api.ErrType},
		told{"p.i = @e", api.ErrType},
		told{"p = @i", api.ErrType},
		told{"i = @e", api.ErrType},
		told{"i = @new(S)", api.ErrType},
		told{"l = @make([]P, 1)", api.ErrType},
		told{"p.x = @v()", api.ErrType},
		told{"e = @v()", api.ErrType},
		told{"e = @1", api.ErrType})
}

// TestIfFor (6.5): the Expr, and then the blocks from left to right.
func TestIfFor(t *testing.T) {
	sides(t, "6.5",
		told{"if true { } else if false { } else { }; for true { }; for { }", api.OK},
		told{"if @1 { }", api.ErrType},
		told{"if @nil { q = 1 }", api.ErrType},
		told{"if @v() { }", api.ErrType},
		told{"if @p { }", api.ErrType},
		told{"if @q { }", api.ErrName},
		told{"if true { @q = 1 } else { r = 1 }", api.ErrName},
		told{"if true { } else { @r = 1 }", api.ErrName},
		told{"if true { } else if @1 { q = 1 } else { r = 1 }", api.ErrType},
		told{"if true { } else if true { @q = 1 } else { r = 1 }", api.ErrName},
		told{"if true { } else if true { } else { @r = 1 }", api.ErrName},
		told{"if @1 { } else if 1 { }", api.ErrType},
		told{"for @1 { }", api.ErrType},
		told{"for @\"\" { q = 1 }", api.ErrType},
		told{"for @v() { }", api.ErrType},
		told{"for @q { }", api.ErrName},
		told{"for true { @q = 1 }", api.ErrName},
		told{"for { @q = 1 }", api.ErrName},
		told{"for 1 @- 2 { }", api.ErrType},
		told{"for 1 < 2 { if 2 < 1 { for !true { } } }", api.OK},
		told{"{ { @q = 1 } }", api.ErrName})
}

// TestBreak (6.5): NBreak and NContinue within a loop, and outside of all.
func TestBreak(t *testing.T) {
	for _, word := range []string{"break", "continue"} {
		for _, c := range []told{
			{"@WORD", api.ErrPlace},
			{"for { WORD }", api.OK},
			{"for true { WORD; WORD }", api.OK},
			{"for { { if true { WORD } else { WORD } } }", api.OK},
			{"for { for { WORD }; WORD }", api.OK},
			{"for { for { } }; @WORD", api.ErrPlace},
			{"for { WORD }; @WORD", api.ErrPlace},
			{"if true { @WORD }", api.ErrPlace},
			{"if true { } else { for { WORD }; @WORD }", api.ErrPlace},
			{"{ @WORD; q = 1 }", api.ErrPlace},
			{"for { WORD; @q = 1 }", api.ErrName},
		} {
			sides(t, "6.5", told{strings.ReplaceAll(c.s, "WORD", word), c.e})
		}
	}
	checked(t, "6.5", told{"func f() { for { break } }; func g() { @break }" + plainMain, api.ErrPlace})
}

// TestReturn (6.5): with a result and without one.
func TestReturn(t *testing.T) {
	sides(t, "6.5",
		told{"return", api.OK},
		told{"return; return", api.OK},
		told{"return @1", api.ErrType},
		told{"return @nil", api.ErrType},
		told{"return @v()", api.ErrType},
		told{"return @p", api.ErrType},
		told{"return @q", api.ErrName},
		told{"return @f()", api.ErrCount},
		told{"return 1 @+ true", api.ErrType},
		told{"return 1 @+ 2", api.ErrType},
		told{"for { if true { return } }; return @1", api.ErrType})
	for _, c := range []struct{ result, fits, not string }{
		{"int", "1|f(2)|input()|p.x|len(l)", "true|nil|\"\"|p|i|l|v()|e|p.none()"},
		{"bool", "true|1 < 2|!false", "1|nil|\"\"|p|i|l|v()"},
		{"string", "\"\"|p.s", "1|true|nil|p|i|l|v()"},
		{"P", "nil|p|new(P)|i.(P)", "1|true|\"\"|i|l|v()|new(S)|e"},
		{"I", "nil|p|i|new(P)|p.i", "1|true|\"\"|l|v()|new(S)|e"},
		{"E", "nil|p|new(S)|e", "1|true|\"\"|l|v()|i"},
		{"[]int", "nil|l|make([]int, 1)", "1|true|\"\"|p|i|v()|make([]bool, 1)|make([][]int, 1)"},
	} {
		head := around + "func g(p P, i I, l []int, e E) " + c.result + " { "
		for _, x := range strings.Split(c.fits, "|") {
			checked(t, "6.5", told{head + "return " + x + " }" + plainMain, api.OK})
		}
		for _, x := range strings.Split(c.not, "|") {
			mark := "@" + x
			if strings.HasPrefix(x, "p.") {
				mark = "p@" + x[1:]
			}
			checked(t, "6.5", told{head + "return " + mark + " }" + plainMain, api.ErrType})
		}
		checked(t, "6.5",
			told{head + "@return }" + plainMain, api.ErrType},
			told{head + "return @q }" + plainMain, api.ErrName},
			told{head + "for { if true { @return } } }" + plainMain, api.ErrType})
	}
}

// TestExprStmt (6.5): only calls are statements.
func TestExprStmt(t *testing.T) {
	sides(t, "6.5",
		told{"v(); f(1); k(1, p, i); p.none(); p.m(1, p); i.none(); i.m(1, nil); k(1, p, i).m(2, i)", api.OK},
		told{"(v()); (((f(1))))", api.OK},
		told{"@1", api.ErrPlace},
		told{"@q", api.ErrPlace},
		told{"@q + r", api.ErrPlace},
		told{"@-q", api.ErrPlace},
		told{"@p.x", api.ErrPlace},
		told{"@l[0]", api.ErrPlace},
		told{"@len(l)", api.ErrPlace},
		told{"@input()", api.ErrPlace},
		told{"@make([]R, 1)", api.ErrPlace},
		told{"@new(R)", api.ErrPlace},
		told{"@q.(R)", api.ErrPlace},
		told{"@nil", api.ErrPlace},
		told{"@\"\"", api.ErrPlace},
		told{"@true", api.ErrPlace},
		told{"@f(1) + f(q)", api.ErrPlace},
		told{"@h()", api.ErrName},
		told{"@f()", api.ErrCount},
		told{"f(@true)", api.ErrType},
		told{"p@.none(1)", api.ErrCount},
		told{"f(@q)", api.ErrName},
		told{"@q.m()", api.ErrName})
}

// TestPrint (6.5): what may be printed.
func TestPrint(t *testing.T) {
	sides(t, "6.5",
		told{"print(1); print(true); print(\"\"); print(p.x); print(l[0]); print(p == nil); print(p.s)", api.OK},
		told{"print(@nil)", api.ErrType},
		told{"print(@v())", api.ErrType},
		told{"print(@p)", api.ErrType},
		told{"print(@i)", api.ErrType},
		told{"print(@l)", api.ErrType},
		told{"print(@e)", api.ErrType},
		told{"print(p@.p)", api.ErrType},
		told{"print(p@.none())", api.ErrType},
		told{"print(@q)", api.ErrName})
}

// TestOrder (6.5): of two statements that are wrong the first is met, and a body's ahead of how it ends.
func TestOrder(t *testing.T) {
	sides(t, "6.5",
		told{"@1; break", api.ErrPlace},
		told{"@break; 1", api.ErrPlace},
		told{"{ @q = 1 }; r = 1", api.ErrName},
		told{"x := 1; { print(@nil) }; x := 2", api.ErrType})
	checked(t, "6.5",
		told{"func f() int { @q = 1 }" + plainMain, api.ErrName},
		told{"@func f() int { }; func g() { q = 1 }" + plainMain, api.ErrEnd},
		told{"func f() { @q = 1 }; func g() int { }" + plainMain, api.ErrName},
		told{"type P struct { }\n  @func (p P) f() int { for true { return 1 } }" + plainMain, api.ErrEnd})
}

// TestEnds (6.5): functions with a result that end, and that do not.
func TestEnds(t *testing.T) {
	for _, c := range []struct {
		s    string
		ends int
	}{
		{"", 0},
		{"return 1", 1},
		{"return 1; v()", 0},
		{"v(); return 1", 1},
		{"return 1; { }", 0},
		{"return 1; return 2", 1},
		{"{ return 1 }", 1},
		{"{ { { return 1 } } }", 1},
		{"{ return 1; v() }", 0},
		{"{ return 1 }; v()", 0},
		{"{ }", 0},
		{"x := 1", 0},
		{"print(1)", 0},
		{"v()", 0},
		{"var x int", 0},
		{"if b { return 1 }", 0},
		{"if b { return 1 } else { return 2 }", 1},
		{"if b { return 1 } else { }", 0},
		{"if b { } else { return 2 }", 0},
		{"if b { return 1 } else { return 2 }; v()", 0},
		{"if b { return 1 } else if b { return 2 }", 0},
		{"if b { return 1 } else if b { return 2 } else { return 3 }", 1},
		{"if b { return 1 } else if b { } else { return 3 }", 0},
		{"if b { return 1 } else if b { return 2 } else { }", 0},
		{"if b { } else if b { return 2 } else { return 3 }", 0},
		{"if b { for { } } else { { return 1 } }", 1},
		{"if true { return 1 }", 0},
		{"for { }", 1},
		{"for { v() }", 1},
		{"for b { }", 0},
		{"for true { return 1 }", 0},
		{"for { return 1 }", 1},
		{"for { continue }", 1},
		{"for { break }", 0},
		{"for { return 1; break }", 0},
		{"for { if b { return 1 } else { { break } } }", 0},
		{"for { if b { } else if b { break } }", 0},
		{"for { if b { } else if b { } else { break } }", 0},
		{"for { { { break } } }", 0},
		{"for { for { break } }", 1},
		{"for { for b { break } }", 1},
		{"for { for { break }; break }", 0},
		{"for { break; for { break } }", 0},
		{"for { for { for { break } } }", 1},
		{"for { if b { for { break } } else { for b { if b { break } } } }", 1},
		{"for { }; v()", 0},
		{"for { break }; for { }", 1},
		{"for { break }; return 1", 1},
		{"for b { for { } }", 0},
		{"if b { for { break } } else { return 1 }", 0},
	} {
		want := told{"func v() { }; func f(b bool) int { " + c.s + " }" + plainMain, api.OK}
		if c.ends == 0 {
			want = told{strings.Replace(want.s, "func f", "@func f", 1), api.ErrEnd}
		}
		checked(t, "6.5", want, told{"func v() { }; func f(b bool) { " + strings.NewReplacer("return 1", "return", "return 2", "return", "return 3", "return").Replace(c.s) + " }" + plainMain, api.OK})
	}
}
