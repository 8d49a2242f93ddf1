package parse_test

import (
	"strconv"
	"strings"
	"testing"

	"turnstone/api"
)

// placed is a tree with its places: the kind, the place, and the Kids.
func placed(n api.Node) string {
	s := strings.Fields(kindNames)[n.Kind-1] + strconv.Itoa(n.Line) + ":" + strconv.Itoa(n.Col)
	if len(n.Kids) == 0 {
		return s
	}
	l := make([]string, len(n.Kids))
	for i, k := range n.Kids {
		l[i] = placed(k)
	}
	return s + "(" + strings.Join(l, " ") + ")"
}

// TestDeclPlaces (4.1): the places of declarations; what is omitted has none.
func TestDeclPlaces(t *testing.T) {
	for s, want := range map[string]string{
		"":                                      "File1:1",
		" \n\n\t// a":                           "File3:6",
		"\n  ; \n;":                             "File2:3",
		" func f() {}":                          "File1:2(Func1:2(None0:0 None0:0 Block1:11))",
		"\n\ttype P struct {;\n x int; y []Q }": "File2:2(Struct2:2(Field3:2(TypeName3:4) Field3:9(SliceOf3:11(TypeName3:13))))",
		"type P interface {\n m(int, [][]Q) R; n()\n}":    "File1:1(Face1:1(Method2:2(TypeName2:16 TypeName2:4 SliceOf2:9(SliceOf2:11(TypeName2:13))) Method2:19(None0:0)))",
		"func (p P) f(a int,\n b []Q) []R {;}":            "File1:1(Func1:1(Param1:7(TypeName1:9) SliceOf2:9(TypeName2:11) Block2:13 Param1:14(TypeName1:16) Param2:2(SliceOf2:4(TypeName2:6))))",
		"func f() {}\nfunc g() {}":                        "File1:1(Func1:1(None0:0 None0:0 Block1:10) Func2:1(None0:0 None0:0 Block2:10))",
		";type A struct{}; type B interface{};func f(){}": "File1:1(Struct1:2 Face1:19 Func1:38(None0:0 None0:0 Block1:46))",
	} {
		if got := placed(tree(t, s)); got != want {
			t.Errorf("4.1: %q: %s, not %s", s, got, want)
		}
	}
}

// wantLine fails the test if the statements of s, which stand from line 2 on, do not have these places.
func wantLine(t *testing.T, s, want string) {
	t.Helper()
	if got := placed(tree(t, "func f() {\n"+s+"}").Kids[0].Kids[2]); got != "Block1:10("+want+")" {
		t.Errorf("4.1: %q: %s, not %s", s, got, want)
	}
}

// TestStmtPlaces (4.1): the places of statements.
func TestStmtPlaces(t *testing.T) {
	for s, want := range map[string]string{
		";{ }":                            "Block2:2",
		"{ {}; break }":                   "Block2:1(Block2:3 Break2:7)",
		" var x int":                      "Var2:2(TypeName2:8 None0:0)",
		"var x []int = 5":                 "Var2:1(SliceOf2:7(TypeName2:9) Int2:15)",
		"if a {} else if b {} else {\n;}": "If2:1(Name2:4 Block2:6 If2:14(Name2:17 Block2:19 Block2:27))",
		"if (a) {}":                       "If2:1(Name2:5 Block2:8 None0:0)",
		"for {}":                          "For2:1(None0:0 Block2:5)",
		"for a {}":                        "For2:1(Name2:5 Block2:7)",
		"break; continue":                 "Break2:1 Continue2:8",
		"return;return a":                 "Return2:1(None0:0) Return2:8(Name2:15)",
		"print ( (a) )":                   "Print2:1(Name2:10)",
		"a()":                             "Expr2:1(Call2:1)",
		"a.b()":                           "Expr2:1(Invoke2:2(Name2:1))",
		"a+b":                             "Expr2:1(Binary2:2(Name2:1 Name2:3))",
		"(a)":                             "Expr2:1(Name2:2)",
		"a := b":                          "Define2:3(Name2:1 Name2:6)",
		"a = b":                           "Assign2:3(Name2:1 Name2:5)",
		"(a.b)[c] =\nd":                   "Assign2:10(At2:6(Select2:3(Name2:2) Name2:7) Name3:1)",
	} {
		wantLine(t, s, want)
	}
}

// TestExprPlaces (4.1): the places of expressions, the first byte of which is the eighth of its line.
func TestExprPlaces(t *testing.T) {
	for s, want := range map[string]string{
		"12":                 "Int2:8",
		"\"a\"":              "Text2:8",
		"true":               "True2:8",
		"false":              "False2:8",
		"nil":                "Nil2:8",
		"ab":                 "Name2:8",
		"((ab))":             "Name2:10",
		"ab (c, 1)":          "Call2:8(Name2:12 Int2:15)",
		"(ab(c))":            "Call2:9(Name2:12)",
		"len(a)":             "Len2:8(Name2:12)",
		"make([]T, 1)":       "Make2:8(SliceOf2:13(TypeName2:15) Int2:18)",
		"new(T)":             "New2:8(TypeName2:12)",
		"input()":            "Input2:8",
		"-a":                 "Unary2:8(Name2:9)",
		"!(-a)":              "Unary2:8(Unary2:10(Name2:11))",
		"a + b":              "Binary2:10(Name2:8 Name2:12)",
		"a +\nb":             "Binary2:10(Name2:8 Name3:1)",
		"(a) + (b)":          "Binary2:12(Name2:9 Name2:15)",
		"a-b-c":              "Binary2:11(Binary2:9(Name2:8 Name2:10) Name2:12)",
		"a-b*c":              "Binary2:9(Name2:8 Binary2:11(Name2:10 Name2:12))",
		"(a-b)*c":            "Binary2:13(Binary2:10(Name2:9 Name2:11) Name2:14)",
		"a . b":              "Select2:10(Name2:8)",
		"a.b.c":              "Select2:11(Select2:9(Name2:8))",
		"a . b(1)":           "Invoke2:10(Name2:8 Int2:14)",
		"a.b().c()":          "Invoke2:13(Invoke2:9(Name2:8))",
		"a.(T)":              "Cast2:9(Name2:8 TypeName2:11)",
		"a .\n( []T )":       "Cast2:10(Name2:8 SliceOf3:3(TypeName3:5))",
		"a [ b ]":            "At2:10(Name2:8 Name2:12)",
		"a[b][c]":            "At2:12(At2:9(Name2:8 Name2:10) Name2:13)",
		"-a.b[c]":            "Unary2:8(At2:12(Select2:10(Name2:9) Name2:13))",
		"f(1).(T).m(2)[3].x": "Select2:24(At2:21(Invoke2:16(Cast2:12(Call2:8(Int2:10) TypeName2:14) Int2:19) Int2:22))",
	} {
		wantLine(t, "return "+s, "Return2:1("+want+")")
	}
}
