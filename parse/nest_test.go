package parse_test

import (
	"slices"
	"strings"
	"testing"

	"turnstone/api"
	"turnstone/parse"
)

// someTokens are tokens of each kind, with every Word and every Sign.
const someTokens = "a 5 \"t\" ; type struct interface func var if else for break continue return print len make new input true false nil int bool string " +
	":= == != <= >= && || + - * / % < > = ! ( ) [ ] { } , ."

// notExpr are the tokens that begin a Stmt which is no Expr, and those that may stand where a Stmt is omitted.
const notExpr = "; } { var if for break continue return print"

// nesting is a text, how many of Stmt, Expr and Type lie in one another where the `^` stands, the one that begins there counted,
// and the tokens with which none begins there.
type nesting struct {
	text  string
	count int
	other string
}

// nestings has each place of the grammar at which a Stmt, an Expr or a Type begins.
func nestings() []nesting {
	return []nesting{
		{"^{ }", 1, "; }"}, {"^break", 1, "; }"}, {"^return", 1, "; }"}, {"^for { }", 1, "; }"},
		{"{ ^{ } }", 2, "; }"}, {"{ { { ^break } } }", 4, "; }"}, {"for { ^break }", 2, "; }"}, {"for { for { ^for { } } }", 3, "; }"}, {"for x { { ^break } }", 3, "; }"},
		{"if x { { ^break } }", 3, "; }"}, {"if x { } else { { ^break } }", 3, "; }"}, {"if x { } else if y { { ^break } }", 3, "; }"}, {"if x { } else if y { } else { { ^{ } } }", 3, "; }"},
		{"^x", 2, notExpr}, {"{ ^x() }", 3, notExpr}, {"^x = 1", 2, notExpr}, {"^-x", 2, notExpr},
		{"if ^x { }", 2, ""}, {"for ^x { }", 2, "{"}, {"return ^x", 2, "; }"}, {"print(^x)", 2, ""}, {"print((^x))", 3, ""},
		{"if x { } else if (^y) { }", 3, ""}, {"for (^x) { }", 3, ""}, {"return (^x)", 3, ""},
		{"var x ^int", 2, ""}, {"var x []^int", 3, ""}, {"var x [][][]^T", 5, ""}, {"var x int = (^1)", 3, ""},
		{"x = (^1)", 3, ""}, {"x := (^1)", 3, ""}, {"(^x) = 1", 3, ""}, {"x = -(^1)", 3, ""}, {"x = !-!(^1)", 3, ""}, {"x = 1 + 2 * (^3)", 3, ""}, {"x = a || (^b) && c", 3, ""},
		{"x(^1)", 3, ")"}, {"x(y(^1))", 4, ")"}, {"x((^1))", 4, ""}, {"x(1, (^2))", 4, ""}, {"x.y(^1)", 3, ")"}, {"x.y(1, z.y(^2))", 4, ")"}, {"x.y.z[^1]", 3, ""}, {"x[^1]", 3, ""}, {"x[1][y[^2]]", 4, ""},
		{"x.(^T)", 3, ""}, {"x.([]^T)", 4, ""}, {"len(^x)", 3, ""}, {"make(^T, 1)", 3, ""}, {"make([]^T, 1)", 4, ""}, {"make(T, (^1))", 4, ""}, {"new(^T)", 3, ""}, {"new([]^T)", 4, ""}, {"((^x))", 4, ""},
	}
}

// inBlocks is a function in whose body so many Blocks stand around s, without what closes them.
func inBlocks(blocks int, s string) string {
	return "func f() {" + strings.Repeat("{", blocks) + " " + s
}

// TestDeepest (4.1): MaxNest of Stmt, Expr and Type in one another are read, wherever the last one begins.
func TestDeepest(t *testing.T) {
	for _, c := range nestings() {
		k := api.MaxNest - c.count
		tree(t, inBlocks(k, strings.Replace(c.text, "^", "", 1))+strings.Repeat("}", k+1))
	}
}

// TestTooDeep (4.1): ErrDeep where one more begins, whatever token stands there; so at the end of the text.
func TestTooDeep(t *testing.T) {
	for _, c := range nestings() {
		k := api.MaxNest - c.count + 1
		wantMarked(t, inBlocks(k, c.text)+strings.Repeat("}", k+1), api.ErrDeep)
		before, _, _ := strings.Cut(inBlocks(k, c.text)+" ", "^")
		for _, token := range strings.Fields(someTokens) {
			if !slices.Contains(strings.Fields(c.other), token) {
				wantMarked(t, before+"^"+token, api.ErrDeep)
			} else if _, place, e := parse.Parse(before + token); e == api.ErrDeep && place.Col == len(before)+1 {
				t.Errorf("4.1: %q: error %d at %v", before+token, e, place)
			}
		}
		if !strings.HasPrefix(c.text, "return ^") {
			wantMarked(t, before+"^", api.ErrDeep)
		}
	}
}

// TestDeepTypes (4.1): Types in one another, in the declarations.
func TestDeepTypes(t *testing.T) {
	most := strings.Repeat("[]", api.MaxNest-1)
	for _, c := range [][2]string{
		{"type P struct { x ", " }"}, {"type P struct { x int; y ", "; z int }"}, {"type P interface { m(", ") }"}, {"type P interface { m(int, ", ") int }"}, {"type P interface { m() ", " }"},
		{"func f(a ", ") { }"}, {"func f(a int, b ", ", c int) { }"}, {"func f() ", " { }"}, {"func (p P) f() ", " { }"},
	} {
		tree(t, c[0]+most+"int"+c[1])
		tree(t, c[0]+most+"P"+c[1])
		wantMarked(t, c[0]+most+"[]^int"+c[1], api.ErrDeep)
		wantMarked(t, c[0]+most+"[]^[]int"+c[1], api.ErrDeep)
		wantMarked(t, c[0]+most+"[]^"+c[1], api.ErrDeep)
		wantMarked(t, c[0]+most+"^"+c[1], api.ErrToken)
		wantMarked(t, c[0]+most+"[^", api.ErrToken)
		for _, token := range strings.Fields(someTokens) {
			wantMarked(t, c[0]+most+"[] ^"+token, api.ErrDeep)
		}
	}
}

// TestDepthEnds (4.1): what has ended does not count, and what is neither Stmt nor Expr nor Type never does.
func TestDepthEnds(t *testing.T) {
	deepest := strings.Repeat("(", api.MaxNest-2) + "1" + strings.Repeat(")", api.MaxNest-2)
	inMost := "x = " + deepest
	for _, s := range []string{
		strings.Repeat(inMost+"; ", 40),
		inMost + " + " + deepest + " * -" + deepest,
		"{ }" + strings.Repeat("; { }", 500),
		"x = " + strings.Repeat("-", 3000) + "1",
		"x = " + strings.Repeat("-!", 1500) + "1",
		"x = a" + strings.Repeat(" + a", 1900),
		"x = a" + strings.Repeat(" || a && a == a + a * a", 190),
		"x = a" + strings.Repeat(".a", 1900),
		"x = a" + strings.Repeat("[1]", 1300),
		"x = a" + strings.Repeat(".m()", 900),
		"x = a" + strings.Repeat(".(T)", 900),
		"x = a(1" + strings.Repeat(", 1", 1900) + ")",
		"if a { }" + strings.Repeat(" else if a { }", 600),
		"if a { }" + strings.Repeat(" else if a { }", 600) + " else { }",
	} {
		tree(t, "func f() { "+s+" }; func g() { "+inMost+" }")
	}
	tree(t, strings.Repeat("func f(a [][]int) [][]int { "+strings.Repeat("{", api.MaxNest)+strings.Repeat("}", api.MaxNest)+" }\n", 30))
	tree(t, "type P struct { "+strings.Repeat("x [][]int; ", 500)+"}")
	wantMarked(t, "func f() { if a { }"+strings.Repeat(" else if a { }", 100)+" else { "+strings.Repeat("{", api.MaxNest-1)+"^{", api.ErrDeep)
}

// TestEndless (R1): texts that nest without an end are refused.
func TestEndless(t *testing.T) {
	const many = 3900
	for s, want := range map[string]api.Errno{
		"func f() { x = " + strings.Repeat("-", many) + "^": api.ErrToken, "func f() { x = " + strings.Repeat("(", api.MaxNest-1) + "^" + strings.Repeat("(", many-100): api.ErrDeep,
		"func f() {" + strings.Repeat("{", api.MaxNest) + "^" + strings.Repeat("{", many-100): api.ErrDeep, "^" + strings.Repeat("(", many): api.ErrToken,
	} {
		wantMarked(t, s, want)
	}
}
