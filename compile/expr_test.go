package compile_test

import (
	"testing"
)

// around makes these types: 5 P, 6 Q, 7 I, 8 E, 9 []int, 10 []string, 11 [][]int, 12 []P, 13 []I, and these functions: 0 P.m, 1 P.none, 2 Q.none, 3 v, 4 f, 5 k, 6 list, 7 g.
const around = `type P struct { x int; ok bool; s string; p P; l []int; i I }
type Q struct { t []string; n [][]int; a []P; e []I }
type I interface { m(int, P) int; none() }
type E interface { }
func (p P) m(a int, q P) int { return a }
func (p P) none() { }
func (q Q) none() { }
func v() { }
func f(a int) int { return a }
func k(b bool, p P, i I, l []int) P { return p }
func list() []int { return nil }
`

// coded is a body, and its code.
type coded struct{ body, want string }

// wantCode holds the code of each body against what it is to be: of a function with the locals 0 a, 1 b, 2 s, 3 p, 4 q, 5 i, 6 e, 7 l.
func wantCode(t *testing.T, promise string, l ...coded) {
	t.Helper()
	for _, c := range l {
		p := program(t, around+"func g(a int, b bool, s string, p P, q Q, i I, e E, l []int) { "+c.body+" }"+plainMain)
		// The functions of around need no constants, so that those of the body are numbered from 0 on.
		if got := line(p.Funcs[7]); got != c.want {
			t.Errorf("%s: the code of %q is\n%s, not\n%s", promise, c.body, got, c.want)
		}
		wantSound(t, p)
	}
}

// TestLiterals (8.2): what has no parts.
func TestLiterals(t *testing.T) {
	wantCode(t, "8.2",
		coded{"print(5)", "Num 0, Print 1, Ret 0"},
		coded{"print(9223372036854775807)", "Num 0, Print 1, Ret 0"},
		coded{"print(true)", "Bit 1, Print 2, Ret 0"},
		coded{"print(false)", "Bit 0, Print 2, Ret 0"},
		coded{`print("x")`, "Lit 0, Print 3, Ret 0"},
		coded{`print("")`, "Lit 0, Print 3, Ret 0"},
		coded{"print(a)", "Load 0, Print 1, Ret 0"},
		coded{"print(b)", "Load 1, Print 2, Ret 0"},
		coded{"print(s)", "Load 2, Print 3, Ret 0"},
		coded{"print(input())", "Input, Print 1, Ret 0"},
		coded{"print((((a))))", "Load 0, Print 1, Ret 0"})
}

// TestNilRequired (8.2): a nil is a Null of the type that is required where it stands.
func TestNilRequired(t *testing.T) {
	wantCode(t, "8.2",
		coded{"var x P = nil; var y I = nil; var z [][]int = nil", "Null 5, Store 8, Null 7, Store 9, Null 11, Store 10, Ret 0"},
		coded{"p = nil; q = nil; i = nil; e = nil; l = nil", "Null 5, Store 3, Null 6, Store 4, Null 7, Store 5, Null 8, Store 6, Null 9, Store 7, Ret 0"},
		coded{"p.p = nil; p.l = nil; p.i = nil", "Load 3, Null 5, SetField 3, Load 3, Null 9, SetField 4, Load 3, Null 7, SetField 5, Ret 0"},
		coded{"q.n[0] = nil; q.a[0] = nil; q.e[0] = nil", "Load 4, Field 1, Num 0, Null 9, SetAt, Load 4, Field 2, Num 0, Null 5, SetAt, Load 4, Field 3, Num 0, Null 7, SetAt, Ret 0"},
		coded{"k(b, nil, nil, nil)", "Load 1, Null 5, Null 7, Null 9, Call 5 4, Pop, Ret 0"},
		coded{"p.m(1, nil)", "Load 3, Num 0, Null 5, Call 0 3, Pop, Ret 0"},
		coded{"i.m(1, nil)", "Load 5, Num 0, Null 5, Invoke 0 3, Pop, Ret 0"},
		coded{"p = (nil)", "Null 5, Store 3, Ret 0"})
	for s, want := range map[string]string{
		"func f() P { return nil }":                            "Null 5, Ret 1, Jump 2",
		"func f() I { return nil }":                            "Null 6, Ret 1, Jump 2",
		"func f() [][]I { return nil; return make([][]I, 1) }": "Null 8, Ret 1, Num 0, Make 8, Ret 1, Jump 5",
	} {
		p := program(t, s+"; type P struct { }; type I interface { }"+plainMain)
		if got := line(p.Funcs[0]); got != want {
			t.Errorf("8.2: the code of %q is %s, not %s", s, got, want)
		}
	}
}

// TestNilCompared (8.2): in == and != a nil has the type of the other part, on either side.
func TestNilCompared(t *testing.T) {
	wantCode(t, "8.2",
		coded{"print(p == nil); print(nil == p)", "Load 3, Null 5, Eq, Print 2, Null 5, Load 3, Eq, Print 2, Ret 0"},
		coded{"print(q != nil); print(nil != q)", "Load 4, Null 6, Ne, Print 2, Null 6, Load 4, Ne, Print 2, Ret 0"},
		coded{"print(i == nil); print(nil == i)", "Load 5, Null 7, Eq, Print 2, Null 7, Load 5, Eq, Print 2, Ret 0"},
		coded{"print(l != nil); print(nil != l)", "Load 7, Null 9, Ne, Print 2, Null 9, Load 7, Ne, Print 2, Ret 0"},
		coded{"print(nil == p.p.i)", "Null 7, Load 3, Field 3, Field 5, Eq, Print 2, Ret 0"},
		coded{"print(nil == q.n[1])", "Null 9, Load 4, Field 1, Num 0, At, Eq, Print 2, Ret 0"},
		coded{"print(nil == k(nil == l, nil, nil, nil))", "Null 5, Null 9, Load 7, Eq, Null 5, Null 7, Null 9, Call 5 4, Eq, Print 2, Ret 0"},
		coded{"print(nil == new(Q)); print(nil != make([]P, 1))", "Null 6, New 6, Eq, Print 2, Null 12, Num 0, Make 12, Ne, Print 2, Ret 0"},
		coded{"print(nil == i.(P)); print(list() == nil)", "Null 5, Load 5, Cast 5, Eq, Print 2, Call 6 0, Null 9, Eq, Print 2, Ret 0"},
		coded{"print((nil) == p == (l == nil))", "Null 5, Load 3, Eq, Load 7, Null 9, Eq, Eq, Print 2, Ret 0"})
}

// TestUnary (8.2): - and !.
func TestUnary(t *testing.T) {
	wantCode(t, "8.2",
		coded{"print(-a); print(!b)", "Load 0, Neg, Print 1, Load 1, Not, Print 2, Ret 0"},
		coded{"print(--a); print(!!!b)", "Load 0, Neg, Neg, Print 1, Load 1, Not, Not, Not, Print 2, Ret 0"},
		coded{"print(-(a + 1)); print(-a + 1)", "Load 0, Num 0, Add, Neg, Print 1, Load 0, Neg, Num 0, Add, Print 1, Ret 0"},
		coded{"print(!(a < 1)); print(!b && b)", "Load 0, Num 0, Lt, Not, Print 2, Load 1, Not, JumpNo 10, Load 1, Jump 11, Bit 0, Print 2, Ret 0"})
}

// TestSignsOfInts (8.2): each sign between ints.
func TestSignsOfInts(t *testing.T) {
	for sign, op := range map[string]string{"+": "Add", "-": "Sub", "*": "Mul", "/": "Div", "%": "Rem"} {
		wantCode(t, "8.2", coded{"print(a " + sign + " 1)", "Load 0, Num 0, " + op + ", Print 1, Ret 0"},
			coded{"print(1 " + sign + " a)", "Num 0, Load 0, " + op + ", Print 1, Ret 0"})
	}
	for sign, op := range map[string]string{"<": "Lt", "<=": "Le", ">": "Gt", ">=": "Ge", "==": "Eq", "!=": "Ne"} {
		wantCode(t, "8.2", coded{"print(a " + sign + " 1)", "Load 0, Num 0, " + op + ", Print 2, Ret 0"},
			coded{"print(1 " + sign + " a)", "Num 0, Load 0, " + op + ", Print 2, Ret 0"})
	}
	wantCode(t, "8.2",
		coded{"print(1 + 2 * a - 3 % 4 / 5)", "Num 0, Num 1, Load 0, Mul, Add, Num 2, Num 3, Rem, Num 4, Div, Sub, Print 1, Ret 0"},
		coded{"print(1 - (2 - a))", "Num 0, Num 1, Load 0, Sub, Sub, Print 1, Ret 0"},
		coded{"print(a - 1 > a * 2)", "Load 0, Num 0, Sub, Load 0, Num 1, Mul, Gt, Print 2, Ret 0"},
		coded{"print(len(s) > 1); print(s[0] >= 1); print(f(a) > 1); print(p.x > 1)",
			"Load 2, Len, Num 0, Gt, Print 2, Load 2, Num 1, TextAt, Num 0, Ge, Print 2, Load 0, Call 4 1, Num 0, Gt, Print 2, Load 3, Field 0, Num 0, Gt, Print 2, Ret 0"})
}

// TestSignsOfOthers (8.2): == and != between bools and between references are those of words.
func TestSignsOfOthers(t *testing.T) {
	wantCode(t, "8.2",
		coded{"print(b == true); print(false != b)", "Load 1, Bit 1, Eq, Print 2, Bit 0, Load 1, Ne, Print 2, Ret 0"},
		coded{"print(p == p.p); print(q != q)", "Load 3, Load 3, Field 3, Eq, Print 2, Load 4, Load 4, Ne, Print 2, Ret 0"},
		coded{"print(i == p); print(p != i); print(e == q)", "Load 5, Load 3, Eq, Print 2, Load 3, Load 5, Ne, Print 2, Load 6, Load 4, Eq, Print 2, Ret 0"},
		coded{"print(i == i); print(e != e)", "Load 5, Load 5, Eq, Print 2, Load 6, Load 6, Ne, Print 2, Ret 0"},
		coded{"print(a == 1 == b)", "Load 0, Num 0, Eq, Load 1, Eq, Print 2, Ret 0"})
}

// TestSignsOfStrings (8.2): those of strings; of > and >= the right part is evaluated first.
func TestSignsOfStrings(t *testing.T) {
	wantCode(t, "8.2",
		coded{`print(s + "x")`, "Load 2, Lit 0, Cat, Print 3, Ret 0"},
		coded{`print("x" + s + "y" + s)`, "Lit 0, Load 2, Cat, Lit 1, Cat, Load 2, Cat, Print 3, Ret 0"},
		coded{`print("x" + (s + "y"))`, "Lit 0, Load 2, Lit 1, Cat, Cat, Print 3, Ret 0"},
		coded{`print(s == "x")`, "Load 2, Lit 0, TextEq, Print 2, Ret 0"},
		coded{`print("x" == s)`, "Lit 0, Load 2, TextEq, Print 2, Ret 0"},
		coded{`print(s != "x")`, "Load 2, Lit 0, TextNe, Print 2, Ret 0"},
		coded{`print(s < "x")`, "Load 2, Lit 0, TextLt, Print 2, Ret 0"},
		coded{`print(s <= "x")`, "Load 2, Lit 0, TextLe, Print 2, Ret 0"},
		coded{`print(s > "x")`, "Lit 0, Load 2, TextLt, Print 2, Ret 0"},
		coded{`print(s >= "x")`, "Lit 0, Load 2, TextLe, Print 2, Ret 0"},
		coded{`print("x" > s)`, "Load 2, Lit 0, TextLt, Print 2, Ret 0"},
		coded{`print("x" >= s)`, "Load 2, Lit 0, TextLe, Print 2, Ret 0"},
		coded{`print(s + "x" > "y" + s)`, "Lit 0, Load 2, Cat, Load 2, Lit 1, Cat, TextLt, Print 2, Ret 0"},
		coded{`print(p.s >= q.t[1])`, "Load 4, Field 0, Num 0, At, Load 3, Field 2, TextLe, Print 2, Ret 0"},
		coded{`print(q.t[1] == p.s)`, "Load 4, Field 0, Num 0, At, Load 3, Field 2, TextEq, Print 2, Ret 0"},
		coded{`print(("x" > s) == (s == "y"))`, "Load 2, Lit 0, TextLt, Load 2, Lit 1, TextEq, Eq, Print 2, Ret 0"},
		coded{`print(s > "x" && s > "y")`, "Lit 0, Load 2, TextLt, JumpNo 8, Lit 1, Load 2, TextLt, Jump 9, Bit 0, Print 2, Ret 0"})
}

// TestAndOr (8.2): && and ||, alone and within one another.
func TestAndOr(t *testing.T) {
	wantCode(t, "8.2",
		coded{"print(b && true)", "Load 1, JumpNo 4, Bit 1, Jump 5, Bit 0, Print 2, Ret 0"},
		coded{"print(b || false)", "Load 1, JumpNo 4, Bit 1, Jump 5, Bit 0, Print 2, Ret 0"},
		coded{"print(b || b)", "Load 1, JumpNo 4, Bit 1, Jump 5, Load 1, Print 2, Ret 0"},
		coded{"print(b && b && b)", "Load 1, JumpNo 4, Load 1, Jump 5, Bit 0, JumpNo 8, Load 1, Jump 9, Bit 0, Print 2, Ret 0"},
		coded{"print(b && (b && b))", "Load 1, JumpNo 8, Load 1, JumpNo 6, Load 1, Jump 7, Bit 0, Jump 9, Bit 0, Print 2, Ret 0"},
		coded{"print(b || b || b)", "Load 1, JumpNo 4, Bit 1, Jump 5, Load 1, JumpNo 8, Bit 1, Jump 9, Load 1, Print 2, Ret 0"},
		coded{"print(b || (b || b))", "Load 1, JumpNo 4, Bit 1, Jump 9, Load 1, JumpNo 8, Bit 1, Jump 9, Load 1, Print 2, Ret 0"},
		coded{"print(b || b && b)", "Load 1, JumpNo 4, Bit 1, Jump 9, Load 1, JumpNo 8, Load 1, Jump 9, Bit 0, Print 2, Ret 0"},
		coded{"print(b && b || b)", "Load 1, JumpNo 4, Load 1, Jump 5, Bit 0, JumpNo 8, Bit 1, Jump 9, Load 1, Print 2, Ret 0"},
		coded{"print((b || b) && !(b && b))", "Load 1, JumpNo 4, Bit 1, Jump 5, Load 1, JumpNo 13, Load 1, JumpNo 10, Load 1, Jump 11, Bit 0, Not, Jump 14, Bit 0, Print 2, Ret 0"},
		coded{"k(b && b, p, i, l)", "Load 1, JumpNo 4, Load 1, Jump 5, Bit 0, Load 3, Load 5, Load 7, Call 5 4, Pop, Ret 0"},
		coded{"print(b == (b || b))", "Load 1, Load 1, JumpNo 5, Bit 1, Jump 6, Load 1, Eq, Print 2, Ret 0"},
		coded{"if b || b { v() }", "Load 1, JumpNo 4, Bit 1, Jump 5, Load 1, JumpNo 7, Call 3 0, Ret 0"},
		coded{"for b && b { v() }", "Load 1, JumpNo 4, Load 1, Jump 5, Bit 0, JumpNo 8, Call 3 0, Jump 0, Ret 0"})
}

// TestCalls (8.2): of functions, and of methods whose receiver is a Struct or a Face.
func TestCalls(t *testing.T) {
	wantCode(t, "8.2",
		coded{"v()", "Call 3 0, Ret 0"},
		coded{"print(f(1))", "Num 0, Call 4 1, Print 1, Ret 0"},
		coded{"print(f(f(f(a) + 1)))", "Load 0, Call 4 1, Num 0, Add, Call 4 1, Call 4 1, Print 1, Ret 0"},
		coded{"p = k(true, p, p, list())", "Bit 1, Load 3, Load 3, Call 6 0, Call 5 4, Store 3, Ret 0"},
		coded{"g(a, b, s, p, q, p, q, l)", "Load 0, Load 1, Load 2, Load 3, Load 4, Load 3, Load 4, Load 7, Call 7 8, Ret 0"},
		coded{"print(p.m(1, p))", "Load 3, Num 0, Load 3, Call 0 3, Print 1, Ret 0"},
		coded{"p.none()", "Load 3, Call 1 1, Ret 0"},
		coded{"q.none()", "Load 4, Call 2 1, Ret 0"},
		coded{"new(Q).none()", "New 6, Call 2 1, Ret 0"},
		coded{"print(i.m(1, p))", "Load 5, Num 0, Load 3, Invoke 0 3, Print 1, Ret 0"},
		coded{"i.none()", "Load 5, Invoke 0 1, Ret 0"},
		coded{"i.none(); i.m(a, p); i.none()", "Load 5, Invoke 0 1, Load 5, Load 0, Load 3, Invoke 1 3, Pop, Load 5, Invoke 0 1, Ret 0"},
		coded{"i.m(i.m(a, p), k(b, p, i, l))", "Load 5, Load 5, Load 0, Load 3, Invoke 0 3, Load 1, Load 3, Load 5, Load 7, Call 5 4, Invoke 0 3, Pop, Ret 0"},
		coded{"p.i.none(); i.(P).none(); q.e[0].none(); q.a[0].none()",
			"Load 3, Field 5, Invoke 0 1, Load 5, Cast 5, Call 1 1, Load 4, Field 3, Num 0, At, Invoke 0 1, Load 4, Field 2, Num 0, At, Call 1 1, Ret 0"},
		coded{"k(b, p, i, l).none(); k(b, p, i, l).i.none()",
			"Load 1, Load 3, Load 5, Load 7, Call 5 4, Call 1 1, Load 1, Load 3, Load 5, Load 7, Call 5 4, Field 5, Invoke 0 1, Ret 0"})
}

// TestObjects (8.2): NSelect, NAt, NLen, NMake, NNew and NCast.
func TestObjects(t *testing.T) {
	wantCode(t, "8.2",
		coded{"print(p.x); print(p.ok); print(p.s)", "Load 3, Field 0, Print 1, Load 3, Field 1, Print 2, Load 3, Field 2, Print 3, Ret 0"},
		coded{"print(p.p.p.x)", "Load 3, Field 3, Field 3, Field 0, Print 1, Ret 0"},
		coded{"print(l[a]); print(p.l[1])", "Load 7, Load 0, At, Print 1, Load 3, Field 4, Num 0, At, Print 1, Ret 0"},
		coded{"print(q.n[1][2])", "Load 4, Field 1, Num 0, At, Num 1, At, Print 1, Ret 0"},
		coded{"print(q.a[1].p.l[2])", "Load 4, Field 2, Num 0, At, Field 3, Field 4, Num 1, At, Print 1, Ret 0"},
		coded{"print(s[a]); print(\"ab\"[1])", "Load 2, Load 0, TextAt, Print 1, Lit 0, Num 0, TextAt, Print 1, Ret 0"},
		coded{"print(q.t[1][2]); print((s + s)[0])", "Load 4, Field 0, Num 0, At, Num 1, TextAt, Print 1, Load 2, Load 2, Cat, Num 2, TextAt, Print 1, Ret 0"},
		coded{"print(l[l[l[0]]]); print(s[l[s[0]]])", "Load 7, Load 7, Load 7, Num 0, At, At, At, Print 1, Load 2, Load 7, Load 2, Num 0, TextAt, At, TextAt, Print 1, Ret 0"},
		coded{"print(len(s)); print(len(l)); print(len(q.n))", "Load 2, Len, Print 1, Load 7, Len, Print 1, Load 4, Field 1, Len, Print 1, Ret 0"},
		coded{"l = make([]int, 3); q.n = make([][]int, a)", "Num 0, Make 9, Store 7, Load 4, Load 0, Make 11, SetField 1, Ret 0"},
		coded{"x := make([]bool, 3); print(x[0])", "Num 0, Make 14, Store 8, Load 8, Num 1, At, Print 2, Ret 0"},
		coded{"x := make([]Q, len(make([]P, 1)))", "Num 0, Make 12, Len, Make 14, Store 8, Ret 0"},
		coded{"p = new(P); q = new(Q); e = new(Q)", "New 5, Store 3, New 6, Store 4, New 6, Store 6, Ret 0"},
		coded{"p = i.(P); q = e.(Q); p = e.(P)", "Load 5, Cast 5, Store 3, Load 6, Cast 6, Store 4, Load 6, Cast 5, Store 3, Ret 0"},
		coded{"print(i.(P).x); print(e.(Q).e[0].(P).l[1])", "Load 5, Cast 5, Field 0, Print 1, Load 6, Cast 6, Field 3, Num 0, At, Cast 5, Field 4, Num 1, At, Print 1, Ret 0"},
		coded{"print(make([]int, input())[input()])", "Input, Make 9, Input, At, Print 1, Ret 0"})
}
