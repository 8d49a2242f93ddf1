package parse_test

import (
	"strings"
	"testing"

	"turnstone/api"
)

// markedPlace is s without its `^`, and the place of what stands behind the `^` and the spaces that follow it.
func markedPlace(t *testing.T, s string) (string, int, int) {
	t.Helper()
	before, after, ok := strings.Cut(s, "^")
	if !ok {
		t.Fatalf("no mark in %q", s)
	}
	spaces := len(after) - len(strings.TrimLeft(after, " "))
	line := strings.Count(before, "\n")
	return before + after, line + 1, len(before) - strings.LastIndex(before, "\n") + spaces
}

// wantMarked fails the test if s, in which a `^` stands before the wrong token, is not refused there with this error.
func wantMarked(t *testing.T, s string, want api.Errno) {
	t.Helper()
	s, line, col := markedPlace(t, s)
	wantError(t, s, line, col, want)
}

// TestWrongFiles (4.1): what does not begin a declaration, and what may not stand behind one.
func TestWrongFiles(t *testing.T) {
	for _, s := range []string{
		"^x", "^5", "^\"type\"", "^}", "^{", "^var x int", "^if", "^(", "^.", "; ^x", "\n\n^x := 5", "^int", "^struct", "^else", "^print(1)",
		"func f() { } ^}", "func f() { } ^)", "func f() { } ^func g() { }", "func f() { }; ^x", "func f() { }\n^{ }", "func f() { }\n;;\n ^return",
		"type P struct { } ^func f() { }", "type P struct { } ^}", "type P interface { } ^type Q struct { }", "type P struct { }\n ^P",
	} {
		wantMarked(t, s, api.ErrToken)
	}
}

// TestWrongTypeDecls (4.1): what may not stand in a struct and in an interface.
func TestWrongTypeDecls(t *testing.T) {
	for _, s := range []string{
		"type^", "type ^5", "type ^struct { }", "type ^int struct { }", "type ^\"P\" struct { }", "type ^( )", "type P^", "type P ^int", "type P ^Q", "type P ^{ }", "type P^\nstruct { }",
		"type P struct^", "type P struct ^( )", "type P struct^;", "type P struct {^", "type P struct {\n^", "type P struct { ^, }", "type P struct { ^int x }", "type P struct { ^5 }",
		"type P struct { x^", "type P struct { x ^}", "type P struct { x^; }", "type P struct { x ^5 }", "type P struct { x ^nil }", "type P struct { x ^(int) }", "type P struct { x^, y int }",
		"type P struct { x int ^y int }", "type P struct { x int^, y int }", "type P struct { x int ^= 5 }", "type P struct { x Q^.R }", "type P struct { x int ^( }", "type P struct { x int\n^",
		"type P struct { x []^}", "type P struct { x []^; }", "type P struct { x [^5]int }", "type P struct { x [^", "type P struct { x ^] }", "type P struct { x []^func }", "type P struct { x ^struct { } }",
		"type P struct { m^() }", "type P struct { ^func f() { } }", "type P struct { x int ^)",
		"type P interface^", "type P interface ^( )", "type P interface {^", "type P interface { ^5 }", "type P interface { ^) }", "type P interface { ^int() }", "type P interface { m^}", "type P interface { m^; }",
		"type P interface { m ^int }", "type P interface { m(^", "type P interface { m(^} }", "type P interface { m(^, int) }", "type P interface { m(int^; }", "type P interface { m(int ^int) }",
		"type P interface { m(int,^) }", "type P interface { m(int,\n^) }", "type P interface { m(a ^int) }", "type P interface { m(^5) }", "type P interface { m() ^5 }", "type P interface { m() int ^int }",
		"type P interface { m()^, n() }", "type P interface { m() ^{ } }", "type P interface { m() ^(int) }", "type P interface { m() ^) }", "type P interface { m()\n^", "type P interface { m() int ^n() }",
		"type P interface { m() []^}", "type P interface { m(int^\n) }",
	} {
		wantMarked(t, s, api.ErrToken)
	}
}

// TestWrongFuncDecls (4.1): what may not stand in the head of a function.
func TestWrongFuncDecls(t *testing.T) {
	for _, s := range []string{
		"func^", "func ^5", "func ^{ }", "func ^if() { }", "func ^int() { }", "func^;", "func f^", "func f ^{ }", "func f^\n() { }", "func f ^5", "func f^.g() { }",
		"func f(^", "func f(^; ) { }", "func f(^5) { }", "func f(^int) { }", "func f(^, a int) { }", "func f(a^", "func f(a^) { }", "func f(a^, b int) { }", "func f(a ^5) { }", "func f(a []^) { }",
		"func f(a int^ b int) { }", "func f(a int,^) { }", "func f(a int^; b int) { }", "func f(a int^\n) { }", "func f(a int,\n^, b int) { }", "func f(a int ^} { }", "func f(a ^(int)) { }",
		"func f()^", "func f()^; { }", "func f()^\n{ }", "func f() ^5 { }", "func f() ^) { }", "func f() ^} { }", "func f() int^", "func f() int ^int { }", "func f() int^\n{ }", "func f() []^{ }", "func f() ^(int) { }",
		"func f() ^= 5", "func f() int^, int { }", "func f() ^struct { }",
		"func (^", "func (^) f() { }", "func (^5 P) f() { }", "func (^int P) f() { }", "func (p^", "func (p^) f() { }", "func (p ^5) f() { }", "func (p ^int) f() { }", "func (p ^[]P) f() { }", "func (p P^", "func (p P^, q Q) f() { }",
		"func (p P ^P) f() { }", "func (p P)^", "func (p P) ^() { }", "func (p P) ^{ }", "func (p P) ^(q Q) f() { }", "func (p P) ^int() { }", "func (p P) f ^{ }", "func (p P) f^.g() { }", "func (p^, q) f() { }",
		"func f() {^", "func f() { { }\n^", "func f() { } ^{ }", "func f() { }^, g() { }",
	} {
		wantMarked(t, s, api.ErrToken)
	}
}

// TestWrongStmts (4.1): what may not stand in the body of a function.
func TestWrongStmts(t *testing.T) {
	for _, s := range []string{
		"^else { }", "^)", "^]", "^,", "^:= 5", "^= 5", "^.x", "^type P struct { }", "^func g() { }", "^struct", "^interface", "^int", "^bool x", "^string", "^+ 1", "^* 1", "^&& x",
		"{ ^)", "{ }^{ }", "{ } ^x", "{ }^, { }", "{ } ^else { }", "{ }\n^else { }", "{ } ^= 5",
		"var^", "var ^5", "var ^int x", "var^;", "var ^= 5", "var x^}", "var x^;", "var x ^5", "var x ^= 5", "var x ^:= 5", "var x^, y int", "var x int ^:= 5", "var x int ^5", "var x int =^}",
		"var x int =^;", "var x int =\n^}", "var x int = 5 ^6", "var x int = 5^, 6", "var x int = 5 ^= 6", "var x int ^int", "var x^.y int", "var x []^= 5", "var x [^5]int", "var x ^nil", "var x int = ^int", "var x int = ^{ }",
		"if^{ }", "if^}", "if^;", "if a^}", "if a^;", "if a^\n{ }", "if a ^b { }", "if a ^= b { }", "if a ^:= b { }", "if a ^break", "if a { } ^b", "if a { } ^if b { }", "if a { }\n^else { }", "if a { }; ^else { }",
		"if a { } else^}", "if a { } else^;", "if a { } else ^a { }", "if a { } else ^for { }", "if a { } else ^break", "if a { } else { } ^else { }", "if a { } else { } ^b", "if a { } else if^{ }",
		"if a { } else if b { }\n^else { }", "if a { } else { }\n^else { }", "if a { ^)", "if a { } else { ^)", "if a { ^else { } }", "if ^var x int { }", "if ^if a { } { }", "if (a ^{ })",
		"for^}", "for^;", "for^; a; { }", "for a^}", "for a^; b; c { }", "for a ^:= 0 { }", "for a^\n{ }", "for\n^}", "for ^break", "for a ^b { }", "for { } ^else { }", "for { ^)", "for { } ^x", "for ^for { } { }",
		"break ^x", "break ^5", "break ^{ }", "break^, continue", "continue ^x", "continue^.x", "break ^break", "break ^= 5",
		"return ^)", "return 1 ^2", "return 1^, 2", "return ^return", "return ^if", "return ^var x int", "return ^{ }", "return ^= 1", "return 1 ^= 2", "return 1 ^:= 2", "return ^int", "return ^break", "return -^}", "return ^+ 1",
		"print^}", "print^;", "print ^x", "print ^= 5", "print(^)", "print(1^", "print(1^}", "print(1^, 2)", "print(1) ^2", "print(1)^.x", "print(1)^[0]", "print(1)^(2)", "print(1) ^+ 2", "print(1) ^= 2", "print(^int)", "print(1 ^= 2)", "print(1^; 2)", "print(1^\n)", "print(^;)",
		"x ^y", "x ^5", "x ^{ }", "x ^if", "x ^else { }", "x^, y = 1", "x ^) }", "x ^]", "x :=^}", "x :=^;", "x =^}", "x =^;", "x = ^= 1", "x := ^:= 1", "x = y ^= 1", "x := y ^:= 1", "x = y ^:= 1", "x := y ^= z",
		"x = ^int", "x = ^if", "x = ^print(1)", "x = ^{ }", "x = 1 ^2", "x = 1^, 2", "x ^var y int", "x =\n^}", "x ^!y", "x ^\"a\"", "x ^true", "x ^nil",
	} {
		wantMarked(t, "func f() { "+s+" }", api.ErrToken)
		wantMarked(t, "func f() {\n{ x()\ny()\n"+s+"; } }", api.ErrToken)
	}
}

// TestWrongExprs (4.1): where an Expr does not go on.
func TestWrongExprs(t *testing.T) {
	for _, s := range []string{
		"^", "(^", "(^)", "(1^", "(1 ^2)", "(1^, 2)", "(1^; )", "(1^]", "(1^\n)", "(1 ^= 2)", "(^int)", "(1)^(2)", "((1)^",
		"-^", "!^", "-^+ 1", "-^* 1", "1 +^", "1 + ^* 2", "1 + ^+ 2", "1 * ^/ 2", "1 ^! 2", "1 ^!2", "1 ==^", "1 == ^= 2", "1 < ^< 2", "1 < ^= 2", "1 && ^&& 2", "1 || ^|| 2", "1 && ^|| 2", "1 % ^)",
		"a(^", "a(1^", "a(1^}", "a(1 ^2)", "a(1,^)", "a(^, 1)", "a(1,^, 2)", "a(1,\n^)", "a(1^\n)", "a(1^; 2)", "a(^;)", "a(^int)", "a(b ^= 1)", "a()^()", "a()^(1)", "a(1)^(2)", "a[1]^(2)", "a.(T)^(1)", "a.b()^()",
		"1^(2)", "\"a\"^(1)", "true^(1)", "nil^()", "true ^false", "1 ^2", "\"a\" ^\"b\"", "a ^b", "a ^true", "a ^len(b)", "a ^new(T)",
		"a.^", "a.^5", "a.^\"b\"", "a.^int", "a.^[1]", "a.^.b", "a.^;", "a.^if", "a.^len", "a.(^", "a.(^)", "a.(^5)", "a.(T^", "a.(T^, U)", "a.(T ^b)", "a.(T^.b)", "a.(^type)", "a.([]^)", "a.([^1]T)", "a.(^(T))", "a.(T^[1])",
		"a[^", "a[^]", "a[1^", "a[1^, 2]", "a[1^)", "a[1 ^2]", "a[1 ^= 2]", "a[1^;]", "a[1^\n]", "a[^int]", "^[1]", "^[]int", "^[]int(a)",
		"len^", "len ^a", "len^.a", "len(^", "len(^)", "len(a^", "len(a^, b)", "len(^int)", "len(a ^b)", "len(^[]int)", "len(a)^()",
		"make^", "make ^a", "make(^", "make(^)", "make(^5, 1)", "make(^\"T\", 1)", "make(T^)", "make(T ^1)", "make(T^; 1)", "make(T,^)", "make(T, 1^", "make(T, 1^, 2)", "make(T, 1 ^2)", "make([]^, 1)", "make([^1]T, 1)",
		"make(T, ^int)", "make(T, ^[]T)", "make(T^.U, 1)", "make(^(T), 1)", "make(T, 1)^(2)",
		"new^", "new ^T", "new(^", "new(^)", "new(^5)", "new(T^", "new(T^, 1)", "new(T^.U)", "new(T ^U)", "new(^nil)", "new([]^)", "new(^new(T))", "new(T)^()",
		"input^", "input ^a", "input(^", "input(^1)", "input(^a)", "input(^,)", "input(^;)", "input()^()", "input ^+ 1",
		"^if", "^else", "^for", "^var", "^func", "^type", "^struct", "^interface", "^break", "^continue", "^return", "^print(1)", "^int", "^bool", "^string", "^)", "^]", "^,", "^.", "^= 1", "^:= 1", "^+ 1", "^* 1", "^{ }",
	} {
		wantMarked(t, "func f() { x = "+s+" }", api.ErrToken)
		wantMarked(t, "func f() { for { }\n\n var y int = - 2 * "+s+" }", api.ErrToken)
		wantMarked(t, "func f() { if x { y[g(1, a.b(2)+"+s+" ;", api.ErrToken)
	}
}

// TestTokenErrors (4.1): the error of the tokens, though what stands before it is no tree either.
func TestTokenErrors(t *testing.T) {
	for s, want := range map[string]api.Errno{
		"^@": api.ErrChar, "\n ^&": api.ErrChar, "func f() { x := ^@ }": api.ErrChar, "func f() { }\n^#": api.ErrChar, "x ^@": api.ErrChar, ") ) x = = \n\n) ^$ \"": api.ErrChar,
		"^\"a": api.ErrText, "func f() { x := ^\"a\\q\" }": api.ErrText, "x y ^\"a\nb\" @": api.ErrText, "func f() { print(^\"\t\") }": api.ErrText,
		"^9223372036854775808": api.ErrWhole, "func f() { x := ^99999999999999999999 }": api.ErrWhole, "x ^9223372036854775808 @": api.ErrWhole,
		"^" + strings.Repeat("\t", api.MaxText+1): api.ErrLong, "^@" + strings.Repeat(" ", api.MaxText): api.ErrLong, "^func f() { }" + strings.Repeat("\n", api.MaxText): api.ErrLong,
		strings.Repeat(";", api.MaxTokens) + "^": api.ErrLong, strings.Repeat("x ", api.MaxTokens) + "^x": api.ErrLong,
		strings.Repeat("{", api.MaxTokens) + "\n^@": api.ErrChar, "func f() {" + strings.Repeat("{", 100) + " ^@": api.ErrChar,
	} {
		wantMarked(t, s, want)
	}
	wantTree(t, strings.Repeat(";", api.MaxTokens-1), "File")
	wantTree(t, "func f() { }"+strings.Repeat(" ", api.MaxText-12), `File(Func"f"(None None Block))`)
}
