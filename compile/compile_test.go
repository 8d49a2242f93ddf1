package compile_test

import (
	"fmt"
	"reflect"
	"slices"
	"strings"
	"testing"

	"turnstone/api"
	"turnstone/check"
	"turnstone/code"
	"turnstone/compile"
	"turnstone/parse"
)

// The calls, as the chapter has them.
var (
	_ func(api.Node) (api.Prog, api.Place, api.Errno) = compile.Compile
	_ func(string) (api.Prog, api.Place, api.Errno)   = compile.Text
)

const plainMain = "\nfunc main() { }"

// tree returns the tree of a text that Parse accepts.
func tree(t *testing.T, s string) api.Node {
	t.Helper()
	n, at, e := parse.Parse(s)
	if e != api.OK {
		t.Fatalf("4.1: Parse of %q is %d at %v", s, e, at)
	}
	return n
}

// program returns what Text answers of a text that is a program, and looks whether Compile answers the same of its tree.
func program(t *testing.T, s string) api.Prog {
	t.Helper()
	p, at, e := compile.Text(s)
	if e != api.OK || at != (api.Place{}) {
		t.Fatalf("8.1: Text of %q is %d at %v", s, e, at)
	}
	q, at, e := compile.Compile(tree(t, s))
	if e != api.OK || at != (api.Place{}) || !reflect.DeepEqual(p, q) {
		t.Fatalf("8.1: Compile of %q is %d at %v", s, e, at)
	}
	return p
}

// funcNamed returns a function of a program.
func funcNamed(t *testing.T, p api.Prog, name string) api.Func {
	t.Helper()
	i := slices.IndexFunc(p.Funcs, func(f api.Func) bool { return f.Name == name })
	if i < 0 {
		t.Fatalf("8.1: there is no %s", name)
	}
	return p.Funcs[i]
}

// line writes the code of a function in one line, without its pcs.
func line(f api.Func) string {
	var l []string
	for _, s := range strings.Split(strings.TrimSuffix(code.Show(f), "\n"), "\n") {
		_, s, _ = strings.Cut(s, " ")
		l = append(l, s)
	}
	return strings.Join(l, ", ")
}

// refused is what Compile is to answer of a text: an @ stands ahead of what is wrong.
type refused struct {
	s string
	e api.Errno
}

// unmarked returns a text without its @, and the place where that stood.
func unmarked(s string) (string, api.Place) {
	ahead, behind, found := strings.Cut(s, "@")
	if !found {
		return s, api.Place{}
	}
	return ahead + behind, api.Place{Line: 1 + strings.Count(ahead, "\n"), Col: len(ahead) - strings.LastIndex(ahead, "\n")}
}

// wantRefused holds what an answer is against what it is to be.
func wantRefused(t *testing.T, c refused, p api.Prog, at api.Place, e api.Errno) {
	t.Helper()
	if _, want := unmarked(c.s); e != c.e || at != want {
		t.Errorf("8.1: %.80q is %d at %v, not %d at %v", c.s, e, at, c.e, want)
	}
	if !reflect.DeepEqual(p, api.Prog{}) {
		t.Errorf("R3: %.80q is answered with a program beside an error", c.s)
	}
}

// TestCheckFirst (8.1): the errors of check.Check, with their places, from Compile and from Text.
func TestCheckFirst(t *testing.T) {
	for _, c := range []refused{
		{"func main() { x := @nil }", api.ErrType},
		{"@func f() int { for { break } }" + plainMain, api.ErrEnd},
		{"\n\nfunc main() {\n\t@x = 1 }", api.ErrName},
		{"type P struct { }; @type P struct { }" + plainMain, api.ErrTwice},
		{"func f() { @f(1) }" + plainMain, api.ErrCount},
		{"func f() { @break }" + plainMain, api.ErrPlace},
		{"@func f() { }", api.ErrName},
		{"@", api.ErrName},
		{"func f() { @x = 1; y = 2 }; func g() { break }" + plainMain, api.ErrName},
		{"func f() { }; func g() { @break; x = 1 }" + plainMain, api.ErrPlace},
	} {
		s, _ := unmarked(c.s)
		p, at, e := compile.Text(s)
		wantRefused(t, c, p, at, e)
		p, at, e = compile.Compile(tree(t, s))
		wantRefused(t, c, p, at, e)
		if _, wantAt, want := check.Check(tree(t, s)); at != wantAt || e != want {
			t.Errorf("8.1: %q is %d at %v, but %d at %v for Check", s, e, at, want, wantAt)
		}
	}
}

// TestParseFirst (8.1): Text answers the errors of parse.Parse, also ahead of those of check.Check.
func TestParseFirst(t *testing.T) {
	for _, c := range []refused{
		{"func main() { x = @}", api.ErrToken},
		{"func@", api.ErrToken},
		{"func main() { y = 1; x = @}", api.ErrToken},
		{"func main() { x := nil }; func f() {@", api.ErrToken},
		{"func main() { print(@\"a\\q\") }", api.ErrText},
		{"func main() { print(@9223372036854775808) }", api.ErrWhole},
		{"func main() { ~ }", api.ErrChar},
		{"func main() { print(" + strings.Repeat("(", 39) + "@1" + strings.Repeat(")", 39) + ") }", api.ErrDeep},
		{"@" + strings.Repeat(" ", api.MaxText+1), api.ErrLong},
	} {
		c.s = strings.Replace(c.s, "~", "@#", 1)
		s, want := unmarked(c.s)
		p, at, e := compile.Text(s)
		wantRefused(t, c, p, at, e)
		if _, at, e := parse.Parse(s); e != c.e || at != want {
			t.Errorf("4.1: Parse of %.80q is %d at %v", c.s, e, at)
		}
	}
}

// TestLeast (8.1): the least program.
func TestLeast(t *testing.T) {
	p := program(t, "func main() { }")
	f := p.Funcs[0]
	if len(p.Types) != 5 || len(p.Funcs) != 1 || p.Main != 0 || len(p.Texts) != 0 || len(p.Nums) != 0 {
		t.Errorf("8.1: %+v", p)
	}
	if f.Name != "main" || len(f.Params) != 0 || f.Result != 0 || len(f.Locals) != 0 || line(f) != "Ret 0" {
		t.Errorf("8.1: %+v", f)
	}
}

// TestChaptersExample (8.3): byte for byte as code.Show prints it.
func TestChaptersExample(t *testing.T) {
	p := program(t, "func main() { x := 1; for x < 9 { x = x + x } }")
	const want = "0 Num 0\n1 Store 0\n2 Load 0\n3 Num 1\n4 Lt\n5 JumpNo 11\n6 Load 0\n7 Load 0\n8 Add\n9 Store 0\n10 Jump 2\n11 Ret 0\n"
	if got := code.Show(p.Funcs[0]); got != want {
		t.Errorf("8.3: %q", got)
	}
	if !slices.Equal(p.Nums, []int64{1, 9}) || len(p.Texts) != 0 || !slices.Equal(p.Funcs[0].Locals, []int{api.Int}) {
		t.Errorf("8.1: %+v", p)
	}
}

// many has functions and methods, some of one name, between types; its main is neither the first nor the last function.
const many = `
func b(x int, y []P, z I) P { var w string; return nil }
func (p P) main(x bool) string { y := x; return "" }
type I interface { two([]bool) [][]int }
func main() { a() }
type P struct { x int; l []I }
func (self P) b() { }
func (q Q) b() { q.b() }
type Q struct { }
func a() []int { return nil }
`

// TestPrograms (8.1): Types and Main, and of each function its name, its parameters, its result and its locals.
func TestPrograms(t *testing.T) {
	p := program(t, many)
	info, _, _ := check.Check(tree(t, many))
	if !reflect.DeepEqual(p.Types, info.Types) || p.Main != 2 || info.Main != 2 {
		t.Errorf("8.1: Main is %d, Types are %+v", p.Main, p.Types)
	}
	// The types: 5 I, 6 P, 7 Q, 8 []int, 9 [][]int, 10 []bool, 11 []I, 12 []P.
	want := []string{
		"b [1 12 5] 6 [1 12 5 3]",
		"P.main [6 2] 3 [6 2 2]",
		"main [] 0 []",
		"P.b [6] 0 [6]",
		"Q.b [7] 0 [7]",
		"a [] 8 []",
	}
	if len(p.Funcs) != len(want) {
		t.Fatalf("8.1: %+v", p.Funcs)
	}
	for i, f := range p.Funcs {
		if got := fmt.Sprint(f.Name, " ", f.Params, " ", f.Result, " ", f.Locals); got != want[i] {
			t.Errorf("8.1: function %d is %s, not %s", i, got, want[i])
		}
		if !slices.Equal(f.Params, info.Funcs[i].Params) || f.Result != info.Funcs[i].Result {
			t.Errorf("8.1: function %d takes %v and gives %d, but %+v for Check", i, f.Params, f.Result, info.Funcs[i])
		}
	}
}

// TestMain (8.1): wherever it stands, and whatever methods are called so.
func TestMain(t *testing.T) {
	for i, s := range []string{
		"func main() { }; func f() { }",
		"func f() { }; func main() { return }",
		"type P struct { }; func (p P) main() { }; func f() { }; func main() { }",
	} {
		if p := program(t, s); p.Main != i || p.Funcs[i].Name != "main" {
			t.Errorf("8.1: Main of %q is %d", s, p.Main)
		}
	}
}

// TestLocals (8.1): the types of the parameters, and then of the variables as they are declared, also of those whose blocks have ended.
func TestLocals(t *testing.T) {
	for _, c := range []struct{ params, body, want string }{
		{"", "", "[]"},
		{"a int, b bool", "", "[1 2]"},
		{"a string", "var b int; c := true; var d string = a; e := \"\"", "[3 1 2 3 3]"},
		{"", "{ a := 1; { b := true } }; c := \"\"", "[1 2 3]"},
		{"", "{ a := 1 }; { a := true }; a := \"\"", "[1 2 3]"},
		{"", "if true { a := 1 } else if false { a := true } else { a := \"\" }; a := 2", "[1 2 3 1]"},
		{"", "for true { a := true; for { b := \"\"; break } }; a := 2", "[2 3 1]"},
		{"a int", "a := true; { a := \"\" }", "[1 2 3]"},
		{"", "a := new(P); b := a.p; var i I = a; l := make([]I, 1); c := l[0]; var d []int", "[5 5 6 8 6 7]"},
		{"", "a := nil == new(P); b := \"a\"[0]; c := make([]int, 1)[0]; d := \"a\" + \"b\"; e := 1 + 2; f := -1; g := !true", "[2 1 1 3 1 1 2]"},
		{"", "return; a := 1", "[1]"},
		{"", "for { }; a := true", "[2]"},
	} {
		p := program(t, "type P struct { p P; l []int }; type I interface { }; func g(x []I) { }; func f("+c.params+") { "+c.body+" }"+plainMain)
		if got := fmt.Sprint(funcNamed(t, p, "f").Locals); got != c.want {
			t.Errorf("8.1: the locals of %q, %q are %s, not %s", c.params, c.body, got, c.want)
		}
	}
}

// TestMostLocals (8.1): as many as there may be, all in blocks that have ended.
func TestMostLocals(t *testing.T) {
	f := program(t, "func main() { "+strings.Repeat("{ a := 1 }; { a := true }; ", api.MaxLocals/2)+"}").Funcs[0]
	if len(f.Locals) != api.MaxLocals || f.Locals[38] != api.Int || f.Locals[39] != api.Bool {
		t.Errorf("8.1: %v", f.Locals)
	}
	if in := f.Code[len(f.Code)-2]; in != (api.Instr{Op: code.Store, A: 39}) {
		t.Errorf("8.3: %v", in)
	}
}

// TestNumsAndTexts (8.1): each once, in the order in which the code needs them first.
func TestNumsAndTexts(t *testing.T) {
	for _, c := range []struct{ s, nums, texts string }{
		{"func main() { }", "[]", "[]"},
		{"func main() { x := 7; x = 5 + 7; x = 5 }", "[7 5]", "[]"},
		{"func main() { print(9223372036854775807); print(-1); print(-0); print(007) }", "[9223372036854775807 1 0 7]", "[]"},
		{"func main() { x := 3; var y int; x = 0; var z int }", "[3 0]", "[]"},
		{"func main() { var b bool; var s string; var l []int }", "[]", "[]"},
		{"func main() { x := true; x = false; print(input()) }", "[]", "[]"},
		{"func main() { print(1 + 2 * 3 - (4 - 1)) }", "[1 2 3 4]", "[]"},
		{"func main() { print(1 > 2); print(4 >= 3) }", "[1 2 4 3]", "[]"},
		{"func main() { for 1 < 2 { print(3) }; if 4 < 5 { print(6) } else { print(7) }; print(8) }", "[1 2 3 4 5 6 7 8]", "[]"},
		{"func main() { make([]int, 5)[6] = 7; print(make([]int, 8)[9]); print(\"\"[10]) }", "[5 6 7 8 9 10]", `[""]`},
		{"func main() { return; print(5); print(\"x\") }", "[5]", `["x"]`},
		{`func main() { print("b"); print("a"); print("b" + "c") }`, "[]", `["b" "a" "c"]`},
		{`func main() { print(""); print("\n\t\"\\"); print("") }`, "[]", `["" "\n\t\"\\"]`},
		{`func main() { print("A"); print("a"); print("a ") }`, "[]", `["A" "a" "a "]`},
		{`func main() { print("l" < "r"); print("x" <= "y") }`, "[]", `["l" "r" "x" "y"]`},
		{`func main() { print("l" > "r"); print("x" >= "y") }`, "[]", `["r" "l" "y" "x"]`},
		{`func main() { print("a" + "b" > "c" + "d") }`, "[]", `["c" "d" "a" "b"]`},
		{`func f(a int, s string) { print(s) }; func main() { f(len("x"), "y") }`, "[]", `["x" "y"]`},
	} {
		wantConstants(t, c.s, c.nums, c.texts)
	}
}

func wantConstants(t *testing.T, s, nums, texts string) {
	t.Helper()
	p := program(t, s)
	if got := fmt.Sprint(p.Nums); got != nums {
		t.Errorf("8.1: the Nums of %q are %s, not %s", s, got, nums)
	}
	if got := fmt.Sprintf("%q", p.Texts); got != texts {
		t.Errorf("8.1: the Texts of %q are %s, not %s", s, got, texts)
	}
}

// TestConstantsOfAll (8.1): the constants of functions behind one another, as they stand in the file, and not as they are called.
func TestConstantsOfAll(t *testing.T) {
	wantConstants(t, `func main() { f(); print(1); print("m") }; func f() { print(2); print(1); print("f"); print("m") }; func g() { print("f"); print(3) }`,
		"[1 2 3]", `["m" "f"]`)
	wantConstants(t, `func f() int { return 2 }; func (p P) m(s string) string { return "m" + s }; type P struct { }; func main() { print(new(P).m("x")); print(f() + 1) }`,
		"[2 1]", `["m" "x"]`)
	p := program(t, `func f() { print(5); print("a") }; func g() { print(6); print("b"); print("a"); print(5) }`+plainMain)
	if got := line(p.Funcs[1]); got != "Num 1, Print 1, Lit 1, Print 3, Lit 0, Print 3, Num 0, Print 1, Ret 0" {
		t.Errorf("8.1: %s", got)
	}
}

// TestNamesOfMethods (8.1): the names of methods that are invoked by name are texts, needed behind the arguments.
func TestNamesOfMethods(t *testing.T) {
	const types = "type I interface { m(string) string; k() I }; type P struct { }; func (p P) m(s string) string { return s }; func (p P) k() I { return p }; "
	for _, c := range []struct{ body, texts string }{
		{`i.m("x")`, `["x" "m"]`},
		{`i.m("m")`, `["m"]`},
		{`print("m"); i.m("x"); i.m("k"); i.k()`, `["m" "x" "k"]`},
		{`i.k().k().m(i.m("a") + "b")`, `["k" "a" "m" "b"]`},
		{`new(P).m("x")`, `["x"]`},
		{`new(P).k()`, `[]`},
		{`new(P).k().m("x")`, `["x" "m"]`},
		{`i.(P).m("x"); i.(P).k()`, `["x"]`},
	} {
		wantConstants(t, types+"func f(i I) { "+c.body+" }"+plainMain, "[]", c.texts)
	}
}
