package parse_test

import (
	"reflect"
	"strconv"
	"strings"
	"testing"

	"turnstone/api"
	"turnstone/parse"
)

// kindNames are the kinds of nodes in their order, from 1 on.
const kindNames = "File Struct Face Field Method Func Param TypeName SliceOf Block Var Define Assign If For Break Continue Return Expr Print Int True False Text Nil Name Unary Binary Call Select Invoke At Len Make New Input Cast None"

// told is a tree without its places: the kind, the Name in quotes unless it is empty, the N unless it is 0, and the Kids.
func told(n api.Node) string {
	s := "?" + strconv.Itoa(n.Kind)
	if names := strings.Fields(kindNames); n.Kind > 0 && n.Kind <= len(names) {
		s = names[n.Kind-1]
	}
	if n.Name != "" {
		s += strconv.Quote(n.Name)
	}
	if n.N != 0 {
		s += strconv.FormatInt(n.N, 10)
	}
	return s + toldKids(n.Kids)
}

func toldKids(kids []api.Node) string {
	if len(kids) == 0 {
		return ""
	}
	l := make([]string, len(kids))
	for i, k := range kids {
		l[i] = told(k)
	}
	return "(" + strings.Join(l, " ") + ")"
}

// short is the beginning of a text, for messages.
func short(s string) string {
	return s[:min(len(s), 60)]
}

// tree is the tree of s, which must have one.
func tree(t *testing.T, s string) api.Node {
	t.Helper()
	n, place, e := parse.Parse(s)
	if e != api.OK || n.Kind != api.NFile {
		t.Fatalf("4.1: %q: kind %d, error %d at %v", short(s), n.Kind, e, place)
	}
	if place != (api.Place{}) {
		t.Errorf("4.2: %q: the place %v without an error", short(s), place)
	}
	return n
}

// wantTree fails the test if s, a File, does not have this tree.
func wantTree(t *testing.T, s, want string) {
	t.Helper()
	if got := told(tree(t, s)); got != want {
		t.Errorf("4.1: %q: %s, not %s", short(s), got, want)
	}
}

// wantStmts fails the test if the lines of a function's body do not have these nodes.
func wantStmts(t *testing.T, s, want string) {
	t.Helper()
	n := tree(t, "func f() {"+s+"}")
	if got := toldKids(n.Kids[0].Kids[2].Kids); got != "("+want+")" {
		t.Errorf("4.1: %q: %s, not (%s)", s, got, want)
	}
}

// wantExpr fails the test if the Expr s does not have this node.
func wantExpr(t *testing.T, s, want string) {
	t.Helper()
	wantStmts(t, "return "+s, "Return("+want+")")
}

// wantError fails the test if s is not refused with e at this place, and with the zero Node beside it.
func wantError(t *testing.T, s string, line, col int, want api.Errno) {
	t.Helper()
	n, place, e := parse.Parse(s)
	if e != want || place != (api.Place{Line: line, Col: col}) {
		t.Errorf("4.1: %q: error %d at %v, not error %d at %d:%d", short(s), e, place, want, line, col)
	}
	if !reflect.DeepEqual(n, api.Node{}) {
		t.Errorf("4.2: %q: a node of the kind %d beside error %d", short(s), n.Kind, e)
	}
}

// TestFiles (4.1): no declarations, and several; Semis too many.
func TestFiles(t *testing.T) {
	for _, s := range []string{"", " \t", "\n\n", "// a", ";", ";;\n;"} {
		wantTree(t, s, "File")
	}
	wantTree(t, "type A struct { }; func f() { }; type B interface { }\nfunc g() { }",
		`File(Struct"A" Func"f"(None None Block) Face"B" Func"g"(None None Block))`)
	wantTree(t, ";\n;; func f() { };;\n\n;func g() { } ;;\n;", `File(Func"f"(None None Block) Func"g"(None None Block))`)
	wantTree(t, "func f() { }; func f() { }", `File(Func"f"(None None Block) Func"f"(None None Block))`)
}

// TestTypeDecls (4.1): structs and interfaces.
func TestTypeDecls(t *testing.T) {
	for s, want := range map[string]string{
		"type A struct { }":                      `Struct"A"`,
		"type A struct {;\n;}":                   `Struct"A"`,
		"type A struct { x int }":                `Struct"A"(Field"x"(TypeName"int"))`,
		"type A struct {\n x int\n}":             `Struct"A"(Field"x"(TypeName"int"))`,
		"type A struct { ;; x int;; }":           `Struct"A"(Field"x"(TypeName"int"))`,
		"type A struct { x B; y bool }":          `Struct"A"(Field"x"(TypeName"B") Field"y"(TypeName"bool"))`,
		"type A struct { x []A\ny [][]string; }": `Struct"A"(Field"x"(SliceOf(TypeName"A")) Field"y"(SliceOf(SliceOf(TypeName"string"))))`,
		"type A struct { x int; x int }":         `Struct"A"(Field"x"(TypeName"int") Field"x"(TypeName"int"))`,

		"type A interface { }":                             `Face"A"`,
		"type A interface {\n;}":                           `Face"A"`,
		"type A interface { m() }":                         `Face"A"(Method"m"(None))`,
		"type A interface { m(); n() }":                    `Face"A"(Method"m"(None) Method"n"(None))`,
		"type A interface {;m();\n; n();;}":                `Face"A"(Method"m"(None) Method"n"(None))`,
		"type A interface { m() int }":                     `Face"A"(Method"m"(TypeName"int"))`,
		"type A interface { m(int) }":                      `Face"A"(Method"m"(None TypeName"int"))`,
		"type A interface { m(int, []B) [][]bool; k() }":   `Face"A"(Method"m"(SliceOf(SliceOf(TypeName"bool")) TypeName"int" SliceOf(TypeName"B")) Method"k"(None))`,
		"type A interface { m(\nint,\nB) B\n n(C, D, E) }": `Face"A"(Method"m"(TypeName"B" TypeName"int" TypeName"B") Method"n"(None TypeName"C" TypeName"D" TypeName"E"))`,
	} {
		wantTree(t, s, "File("+want+")")
	}
}

// TestFuncDecls (4.1): functions with and without a receiver, a result, parameters.
func TestFuncDecls(t *testing.T) {
	for s, want := range map[string]string{
		"func f() { }":                            `Func"f"(None None Block)`,
		"func f() {;;\n}":                         `Func"f"(None None Block)`,
		"func f() int { }":                        `Func"f"(None TypeName"int" Block)`,
		"func f() [][]B { }":                      `Func"f"(None SliceOf(SliceOf(TypeName"B")) Block)`,
		"func f(a int) { }":                       `Func"f"(None None Block Param"a"(TypeName"int"))`,
		"func f(a int, b []B, c string) bool { }": `Func"f"(None TypeName"bool" Block Param"a"(TypeName"int") Param"b"(SliceOf(TypeName"B")) Param"c"(TypeName"string"))`,
		"func (a B) f() { }":                      `Func"f"(Param"a"(TypeName"B") None Block)`,
		"func (a B) f(c D) E { break }":           `Func"f"(Param"a"(TypeName"B") TypeName"E" Block(Break) Param"c"(TypeName"D"))`,
		"func (a a) a(a a, a a) a { }":            `Func"a"(Param"a"(TypeName"a") TypeName"a" Block Param"a"(TypeName"a") Param"a"(TypeName"a"))`,
		"func f(\na int,\nb int) {\n}":            `Func"f"(None None Block Param"a"(TypeName"int") Param"b"(TypeName"int"))`,
		"func main() { print(1 + 2 * x) }":        `Func"main"(None None Block(Print(Binary"+"(Int1 Binary"*"(Int2 Name"x")))))`,
		"func f() { break; continue\nreturn }":    `Func"f"(None None Block(Break Continue Return(None)))`,
		"func f(\n) {\nbreak\n}":                  `Func"f"(None None Block(Break))`,
	} {
		wantTree(t, s, "File("+want+")")
	}
}

// TestStmts (4.1): each form of a Stmt.
func TestStmts(t *testing.T) {
	for s, want := range map[string]string{
		"{ }":                                   "Block",
		"{ { }; break }":                        "Block(Block Break)",
		"var x int":                             `Var"x"(TypeName"int" None)`,
		"var x []A = nil":                       `Var"x"(SliceOf(TypeName"A") Nil)`,
		"var x bool = a == b":                   `Var"x"(TypeName"bool" Binary"=="(Name"a" Name"b"))`,
		"if a { }":                              `If(Name"a" Block None)`,
		"if a { break } else { }":               `If(Name"a" Block(Break) Block)`,
		"if a { } else if b { }":                `If(Name"a" Block If(Name"b" Block None))`,
		"if a { } else if b { } else { break }": `If(Name"a" Block If(Name"b" Block Block(Break)))`,
		"if a { if b { } } else { }":            `If(Name"a" Block(If(Name"b" Block None)) Block)`,
		"if a { if b { } else { } }":            `If(Name"a" Block(If(Name"b" Block Block)) None)`,
		"if a { }; if b { } else { }":           `If(Name"a" Block None) If(Name"b" Block Block)`,
		"for { }":                               "For(None Block)",
		"for a { break }":                       `For(Name"a" Block(Break))`,
		"for a < b { continue }":                `For(Binary"<"(Name"a" Name"b") Block(Continue))`,
		"break":                                 "Break",
		"continue":                              "Continue",
		"return":                                "Return(None)",
		"return a":                              `Return(Name"a")`,
		"return -1":                             `Return(Unary"-"(Int1))`,
		"return\na":                             `Return(None) Expr(Name"a")`,
		"print(a)":                              `Print(Name"a")`,
		"print((a))":                            `Print(Name"a")`,
		"a":                                     `Expr(Name"a")`,
		"a()":                                   `Expr(Call"a")`,
		"a.b()":                                 `Expr(Invoke"b"(Name"a"))`,
		"1 + 2":                                 `Expr(Binary"+"(Int1 Int2))`,
		"a := 1":                                `Define(Name"a" Int1)`,
		"a = 1":                                 `Assign(Name"a" Int1)`,
		"a.b = c.d":                             `Assign(Select"b"(Name"a") Select"d"(Name"c"))`,
		"a[1] = 2":                              `Assign(At(Name"a" Int1) Int2)`,
		"a + 1 := b == c":                       `Define(Binary"+"(Name"a" Int1) Binary"=="(Name"b" Name"c"))`,
		"1 = 2":                                 "Assign(Int1 Int2)",
		"a == b":                                `Expr(Binary"=="(Name"a" Name"b"))`,
		"a = b == c":                            `Assign(Name"a" Binary"=="(Name"b" Name"c"))`,
		"-a = !b":                               `Assign(Unary"-"(Name"a") Unary"!"(Name"b"))`,
	} {
		for _, form := range []string{s, " " + s + " ", ";" + s, s + ";", "\n" + s + "\n", ";;\n;" + s + "\n;;\n;"} {
			wantStmts(t, form, want)
		}
		for _, form := range []string{s + ";" + s, s + "\n" + s, s + " ;;\n; " + s + ";;"} {
			wantStmts(t, form, want+" "+want)
		}
		wantStmts(t, "{"+s+"}", "Block("+want+")")
		wantStmts(t, "for { "+s+" }; if a { "+s+"\n } else {\n"+s+" }", "For(None Block("+want+")) If(Name\"a\" Block("+want+") Block("+want+"))")
	}
}

// TestPrimes (4.1): each form of a Prime, and of what may follow it.
func TestPrimes(t *testing.T) {
	for s, want := range map[string]string{
		"0":                   "Int",
		"007":                 "Int7",
		"9223372036854775807": "Int9223372036854775807",
		`""`:                  "Text",
		`"a\n\t\"\\ b"`:       `Text"a\n\t\"\\ b"`,
		"true":                "True",
		"false":               "False",
		"nil":                 "Nil",
		"a":                   `Name"a"`,
		"a()":                 `Call"a"`,
		"a(1)":                `Call"a"(Int1)`,
		"a(1, b(2, 3), c())":  `Call"a"(Int1 Call"b"(Int2 Int3) Call"c")`,
		"a(\n1,\n2)":          `Call"a"(Int1 Int2)`,
		"(a)":                 `Name"a"`,
		"(((1)))":             "Int1",
		"len(a)":              `Len(Name"a")`,
		"len(\"b\")":          `Len(Text"b")`,
		"make(int, 3)":        `Make(TypeName"int" Int3)`,
		"make([][]A, n + 1)":  `Make(SliceOf(SliceOf(TypeName"A")) Binary"+"(Name"n" Int1))`,
		"new(A)":              `New(TypeName"A")`,
		"new([]bool)":         `New(SliceOf(TypeName"bool"))`,
		"input()":             "Input",
		"a.b":                 `Select"b"(Name"a")`,
		"a.b.c":               `Select"c"(Select"b"(Name"a"))`,
		"a.\nb":               `Select"b"(Name"a")`,
		"a.b()":               `Invoke"b"(Name"a")`,
		"a.b(1, c)":           `Invoke"b"(Name"a" Int1 Name"c")`,
		"a.b().c()":           `Invoke"c"(Invoke"b"(Name"a"))`,
		"a.(B)":               `Cast(Name"a" TypeName"B")`,
		"a.([]int).b":         `Select"b"(Cast(Name"a" SliceOf(TypeName"int")))`,
		"a[b]":                `At(Name"a" Name"b")`,
		"a[1][2]":             `At(At(Name"a" Int1) Int2)`,
		"a[b[1] + 2].c":       `Select"c"(At(Name"a" Binary"+"(At(Name"b" Int1) Int2)))`,
		"f(1)[2].g(3).(H).i":  `Select"i"(Cast(Invoke"g"(At(Call"f"(Int1) Int2) Int3) TypeName"H"))`,
		"(a).b":               `Select"b"(Name"a")`,
		"(a + b)[1]":          `At(Binary"+"(Name"a" Name"b") Int1)`,
		"1[2]":                "At(Int1 Int2)",
		`"a"[0]`:              `At(Text"a" Int)`,
		"nil.a":               `Select"a"(Nil)`,
		"true.a(false)":       `Invoke"a"(True False)`,
		"len(a).b":            `Select"b"(Len(Name"a"))`,
		"make(T, 1)[0]":       `At(Make(TypeName"T" Int1) Int)`,
		"new(T).m()":          `Invoke"m"(New(TypeName"T"))`,
		"input()[1]":          "At(Input Int1)",
	} {
		wantExpr(t, s, want)
		wantExpr(t, "("+s+")", want)
		wantExpr(t, "-"+s, `Unary"-"(`+want+")")
		wantExpr(t, "!"+s, `Unary"!"(`+want+")")
		wantExpr(t, "x + "+s, `Binary"+"(Name"x" `+want+")")
		wantExpr(t, s+" || x", `Binary"||"(`+want+` Name"x")`)
	}
}

// TestUnary (4.1): signs before a Post, one or several.
func TestUnary(t *testing.T) {
	wantExpr(t, "- - -1", `Unary"-"(Unary"-"(Unary"-"(Int1)))`)
	wantExpr(t, "!-!a", `Unary"!"(Unary"-"(Unary"!"(Name"a")))`)
	wantExpr(t, "-a.b", `Unary"-"(Select"b"(Name"a"))`)
	wantExpr(t, "(-a).b", `Select"b"(Unary"-"(Name"a"))`)
	wantExpr(t, "-a[1]", `Unary"-"(At(Name"a" Int1))`)
	wantExpr(t, "-a + b", `Binary"+"(Unary"-"(Name"a") Name"b")`)
	wantExpr(t, "-(a + b)", `Unary"-"(Binary"+"(Name"a" Name"b"))`)
	wantExpr(t, "a - -b", `Binary"-"(Name"a" Unary"-"(Name"b"))`)
	wantExpr(t, "a--b", `Binary"-"(Name"a" Unary"-"(Name"b"))`)
	wantExpr(t, "!a == b", `Binary"=="(Unary"!"(Name"a") Name"b")`)
	wantExpr(t, "a != !b", `Binary"!="(Name"a" Unary"!"(Name"b"))`)
	wantExpr(t, "-a * -b", `Binary"*"(Unary"-"(Name"a") Unary"-"(Name"b"))`)
}

// tight are the signs that join two parts: the later row binds tighter.
var tight = [][]string{{"||"}, {"&&"}, {"==", "!=", "<", "<=", ">", ">="}, {"+", "-"}, {"*", "/", "%"}}

// TestBinary (4.1): each sign beside each other one, with and without parentheses.
func TestBinary(t *testing.T) {
	for i, row := range tight {
		for _, a := range row {
			wantExpr(t, "x"+a+"y", `Binary"`+a+`"(Name"x" Name"y")`)
			for k, others := range tight {
				for _, b := range others {
					wantPair(t, a, b, k > i)
				}
			}
		}
	}
}

// wantPair fails the test if x a y b z is not read as it must be, given whether b binds tighter than a.
func wantPair(t *testing.T, a, b string, tighter bool) {
	t.Helper()
	fromLeft := `Binary"` + b + `"(Binary"` + a + `"(Name"x" Name"y") Name"z")`
	fromRight := `Binary"` + a + `"(Name"x" Binary"` + b + `"(Name"y" Name"z"))`
	want := fromLeft
	if tighter {
		want = fromRight
	}
	wantExpr(t, "x"+a+"y"+b+"z", want)
	wantExpr(t, "(x"+a+"y)"+b+"z", fromLeft)
	wantExpr(t, "x"+a+"(y"+b+"z)", fromRight)
}

// TestManyBinary (4.1): more than two signs.
func TestManyBinary(t *testing.T) {
	wantExpr(t, "a || b && c == d + e * f", `Binary"||"(Name"a" Binary"&&"(Name"b" Binary"=="(Name"c" Binary"+"(Name"d" Binary"*"(Name"e" Name"f")))))`)
	wantExpr(t, "a * b + c == d && e || f", `Binary"||"(Binary"&&"(Binary"=="(Binary"+"(Binary"*"(Name"a" Name"b") Name"c") Name"d") Name"e") Name"f")`)
	wantExpr(t, "a + b * c - d", `Binary"-"(Binary"+"(Name"a" Binary"*"(Name"b" Name"c")) Name"d")`)
	wantExpr(t, "a * b + c * d", `Binary"+"(Binary"*"(Name"a" Name"b") Binary"*"(Name"c" Name"d"))`)
	wantExpr(t, "a || b == c || d", `Binary"||"(Binary"||"(Name"a" Binary"=="(Name"b" Name"c")) Name"d")`)
	wantExpr(t, "a == b * c < d", `Binary"<"(Binary"=="(Name"a" Binary"*"(Name"b" Name"c")) Name"d")`)
	wantExpr(t, "a - b - c - d", `Binary"-"(Binary"-"(Binary"-"(Name"a" Name"b") Name"c") Name"d")`)
	wantExpr(t, "a % b * c / d", `Binary"/"(Binary"*"(Binary"%"(Name"a" Name"b") Name"c") Name"d")`)
	wantExpr(t, "a +\nb *\nc", `Binary"+"(Name"a" Binary"*"(Name"b" Name"c"))`)
}

// TestMarksInTexts (4.1): a Text that says what a Sign, a Word or a Semi is written as is a Text.
func TestMarksInTexts(t *testing.T) {
	for _, s := range []string{";", "}", ")", "{", "(", "if", "print", "+", ":=", "int", ".", "x"} {
		wantStmts(t, `return "`+s+`"`, `Return(Text"`+s+`")`)
		wantError(t, `func f() { a "`+s+`" }`, 1, 14, api.ErrToken)
		wantError(t, `func f() { var a "`+s+`" }`, 1, 18, api.ErrToken)
		wantError(t, `func f() { return a "`+s+`" }`, 1, 21, api.ErrToken)
	}
}

// TestMemory (R2): no two lists of a tree share memory, and an answer shares none with another.
func TestMemory(t *testing.T) {
	const s = "type A interface { m(int, []B) int }; func (a A) f(b int, c int) []A { x := f(1, a.b(2, 3), -4)[5 + 6]\nif x { } else if y { z() } else { }\nprint(\"a\")\n }"
	first := tree(t, s)
	kept := told(first)
	seen := map[*api.Node]bool{}
	turnAll(t, tree(t, s), seen)
	turnAll(t, tree(t, s), seen)
	if told(first) != kept || told(tree(t, s)) != kept {
		t.Errorf("R2: %s, then %s", kept, told(first))
	}
}

// turnAll turns each kid of n to something else, and what is spare behind them, and fails the test if one was seen before.
func turnAll(t *testing.T, n api.Node, seen map[*api.Node]bool) {
	t.Helper()
	for _, k := range n.Kids {
		turnAll(t, k, seen)
	}
	whole := n.Kids[:cap(n.Kids)]
	for i := range whole {
		if seen[&whole[i]] {
			t.Errorf("R2: two lists share memory")
		}
		seen[&whole[i]] = true
		whole[i] = api.Node{Kind: -1, Name: "turned"}
	}
}
