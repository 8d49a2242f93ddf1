package check_test

import (
	"slices"
	"strings"
	"testing"

	"turnstone/api"
)

// operand is an expression, and the type that it has; what calls v has none.
type operand struct{ s, of string }

// operands returns expressions of all kinds of types.
func operands() []operand {
	return []operand{{"v()", ""}, {"1", "int"}, {"true", "bool"}, {`"a"`, "string"}, {"nil", "nil"},
		{"new(P)", "P"}, {"new(Q)", "Q"}, {"i", "I"}, {"j", "J"}, {"e", "E"}, {"make([]int, 1)", "[]int"}, {"make([]P, 1)", "[]P"}, {"make([][]int, 1)", "[][]int"}}
}

// worlds declares types: P has I and E, Q has only E, nothing has J.
const worlds = `type P struct { x int; n Q; i I; l []int; s string; b bool; f int }
type Q struct { y P; x string }
type I interface { get(int) int }
type J interface { get(int) int; more() }
type E interface { }
func (p P) get(a int) int { return a }
func (p P) none() { }
func (p P) give(a P, b I, c []int) []P { return nil }
func (q Q) get(a bool) int { return 1 }
func (q Q) more() { }
func v() { }
func two(a int, p P) Q { return nil }
func any(e E) E { return e }
`

// asked puts statements into a body that knows the operands.
func asked(s string) string {
	return worlds + "func g(i I, j J, e E, l []int, p P) { " + s + " }" + plainMain
}

// given holds an expression, in which a % stands ahead of its sign, against the type that it is to have; none if it is wrong.
func given(t *testing.T, s, of string) {
	t.Helper()
	plain, marked := strings.Replace(s, "%", "", 1), strings.Replace(s, "%", "@", 1)
	switch of {
	case "none":
		checked(t, "6.4", told{asked("x := " + marked), api.ErrType}, told{asked("any(" + marked + ")"), api.ErrType})
	case "int", "bool", "string":
		checked(t, "6.4", told{asked("var x " + of + " = " + plain), api.OK}, told{asked("any(" + marked + ")"), api.ErrType})
	default:
		checked(t, "6.4", told{asked("x := " + plain + "; x = nil; y := make([]" + of + ", 1); y[0] = x; x = y[0]"), api.OK})
		other := "[]" + of
		checked(t, "6.4", told{asked("var x " + other + " = " + marked), api.ErrType})
	}
}

// TestLiterals (6.4): those, and names of variables.
func TestLiterals(t *testing.T) {
	given(t, "%0", "int")
	given(t, "%9223372036854775807", "int")
	given(t, "%input()", "int")
	given(t, "%true", "bool")
	given(t, "%false", "bool")
	given(t, `%""`, "string")
	given(t, `%"a\n"`, "string")
	given(t, "%p", "P")
	given(t, "%i", "I")
	given(t, "%e", "E")
	given(t, "%l", "[]int")
	checked(t, "6.4", told{asked("any(nil)"), api.OK}, told{asked("print(@nil)"), api.ErrType}, told{asked("print(@unknown)"), api.ErrName})
}

// TestUnary (6.4): each sign with each operand.
func TestUnary(t *testing.T) {
	for _, x := range operands() {
		of := map[string]string{"-int": "int", "!bool": "bool"}
		for _, sign := range []string{"-", "!"} {
			want, ok := of[sign+x.of]
			if !ok {
				want = "none"
			}
			given(t, "%"+sign+x.s, want)
			given(t, "%"+sign+"("+x.s+")", want)
		}
	}
	given(t, "%--1", "int")
	given(t, "%!!true", "bool")
	given(t, "%-!true", "none")
	checked(t, "6.4", told{asked("print(-@q)"), api.ErrName}, told{asked("print(!-@!1)"), api.ErrType}, told{asked("print(@-!true)"), api.ErrType})
}

// joinable tells which types may stand on the sides of a sign, as left, right and what it gives.
func joinable(sign string) []string {
	switch sign {
	case "+":
		return []string{"int int int", "string string string"}
	case "-", "*", "/", "%":
		return []string{"int int int"}
	case "<", "<=", ">", ">=":
		return []string{"int int bool", "string string bool"}
	case "&&", "||":
		return []string{"bool bool bool"}
	}
	return []string{"int int bool", "bool bool bool", "string string bool", "P P bool", "Q Q bool", "I I bool", "J J bool", "E E bool",
		"nil P bool", "nil Q bool", "nil I bool", "nil J bool", "nil E bool", "nil []int bool", "nil []P bool", "nil [][]int bool",
		"P nil bool", "Q nil bool", "I nil bool", "J nil bool", "E nil bool", "[]int nil bool", "[]P nil bool", "[][]int nil bool",
		"P I bool", "P E bool", "Q E bool", "I P bool", "E P bool", "E Q bool"}
}

// TestBinary (6.4): each sign with each operand on both sides.
func TestBinary(t *testing.T) {
	for _, sign := range []string{"+", "-", "*", "/", "%", "<", "<=", ">", ">=", "&&", "||", "==", "!="} {
		for _, x := range operands() {
			for _, y := range operands() {
				want := "none"
				for _, of := range []string{"int", "bool", "string"} {
					if slices.Contains(joinable(sign), x.of+" "+y.of+" "+of) {
						want = of
					}
				}
				given(t, x.s+" %"+sign+" "+y.s, want)
			}
		}
	}
}

// TestBinaryInOrder (6.4): the parts from left to right, ahead of the whole.
func TestBinaryInOrder(t *testing.T) {
	for _, sign := range []string{"+", "-", "*", "/", "%", "<", "<=", ">", ">=", "&&", "||", "==", "!="} {
		for _, c := range []told{
			{"print(@q SIGN r)", api.ErrName},
			{"print(nil SIGN @r)", api.ErrName},
			{"print((@!1) SIGN r)", api.ErrType},
			{"print((1 @- nil) SIGN r)", api.ErrType},
			{"print(nil SIGN (@-nil))", api.ErrType},
			{"print(nil @SIGN v())", api.ErrType},
		} {
			checked(t, "6.4", told{asked(strings.Replace(c.s, "SIGN", sign, 1)), c.e})
		}
	}
}

// TestAt (6.4): each operand with each index.
func TestAt(t *testing.T) {
	elem := map[string]string{"string": "int", "[]int": "int", "[]P": "P", "[][]int": "[]int"}
	for _, x := range operands() {
		for _, y := range operands() {
			want, ok := elem[x.of]
			if !ok || y.of != "int" {
				want = "none"
			}
			given(t, x.s+"%["+y.s+"]", want)
		}
	}
	given(t, "make([][]int, 1)[0]%[0]", "int")
	given(t, "make([][]int, 1)[0]%[true]", "none")
	checked(t, "6.4",
		told{asked("print(@q[r])"), api.ErrName},
		told{asked("print(nil[@r])"), api.ErrName},
		told{asked("print(l@[nil][r])"), api.ErrType},
		told{asked("print(l[0]@[0])"), api.ErrType})
}

// TestLen (6.4): each operand.
func TestLen(t *testing.T) {
	for _, x := range operands() {
		want := "none"
		if x.of == "string" || strings.HasPrefix(x.of, "[]") {
			want = "int"
		}
		given(t, "%len("+x.s+")", want)
	}
	checked(t, "6.4", told{asked("print(len(@q))"), api.ErrName})
}

// TestMakeNew (6.4): each type, and for make each operand.
func TestMakeNew(t *testing.T) {
	for _, of := range []string{"int", "bool", "string", "P", "Q", "I", "J", "E", "[]int", "[]P", "[]I", "[][]bool"} {
		for _, x := range operands() {
			want := "none"
			if x.of == "int" && of[0] == '[' {
				want = of
			}
			given(t, "%make("+of+", "+x.s+")", want)
		}
		want := "none"
		if of == "P" || of == "Q" {
			want = of
		}
		given(t, "%new("+of+")", want)
	}
	checked(t, "6.4",
		told{asked("print(make(@R, q))"), api.ErrName},
		told{asked("print(make([]@R, q))"), api.ErrName},
		told{asked("print(make(int, @q))"), api.ErrName},
		told{asked("print(make([]int, @q))"), api.ErrName},
		told{asked("print(new(@R))"), api.ErrName},
		told{asked("print(new([]@R))"), api.ErrName},
		told{asked("print(@new([]P))"), api.ErrType})
}

// TestCast (6.4): each operand to each type.
func TestCast(t *testing.T) {
	fits := []string{"I P", "E P", "E Q"}
	for _, x := range operands() {
		for _, of := range []string{"int", "bool", "string", "P", "Q", "I", "J", "E", "[]int", "[]P"} {
			want := "none"
			if slices.Contains(fits, x.of+" "+of) {
				want = of
			}
			given(t, x.s+"%.("+of+")", want)
		}
	}
	given(t, "e.(P).i%.(P)", "P")
	checked(t, "6.4",
		told{asked("print(@q.(R))"), api.ErrName},
		told{asked("print(1.(@R))"), api.ErrName},
		told{asked("print(v().([]@R))"), api.ErrName},
		told{asked("print(1@.(P).x)"), api.ErrType})
}

// TestSelect (6.4): each operand, and fields that are there and not.
func TestSelect(t *testing.T) {
	fields := map[string]string{"P x": "int", "P n": "Q", "P i": "I", "P l": "[]int", "P s": "string", "P b": "bool", "Q y": "P", "Q x": "string"}
	for _, x := range operands() {
		for _, name := range []string{"x", "n", "i", "l", "s", "b", "y"} {
			if want, ok := fields[x.of+" "+name]; ok {
				given(t, x.s+"%."+name, want)
				continue
			}
			e := api.ErrType
			if x.of == "P" || x.of == "Q" {
				e = api.ErrName
			}
			checked(t, "6.4", told{asked("any(" + x.s + "@." + name + ")"), e})
		}
	}
	given(t, "p.n.y.n.y.n%.x", "string")
	checked(t, "6.4",
		told{asked("print(@q.x)"), api.ErrName},
		told{asked("print(p@.get)"), api.ErrName},
		told{asked("print(p@.X)"), api.ErrName},
		told{asked("print(p@.none.x)"), api.ErrName},
		told{asked("print(p.x@.x)"), api.ErrType},
		told{asked("print(i@.get)"), api.ErrType})
}

// TestCall (6.4): how many arguments, and of which types.
func TestCall(t *testing.T) {
	given(t, "%two(1, nil)", "Q")
	given(t, "%two(1, p)", "Q")
	given(t, "%any(p)", "E")
	for _, x := range operands() {
		e := api.ErrType
		if x.of == "int" {
			e = api.OK
		}
		checked(t, "6.4", told{asked(strings.Replace("two(@"+x.s+", nil)", "@", mark(e), 1)), e})
		e = api.ErrType
		if x.of == "P" || x.of == "nil" {
			e = api.OK
		}
		checked(t, "6.4", told{asked(strings.Replace("two(1, @"+x.s+")", "@", mark(e), 1)), e})
		e = api.ErrType
		if slices.Contains([]string{"P", "Q", "E", "nil"}, x.of) {
			e = api.OK
		}
		checked(t, "6.4", told{asked(strings.Replace("any(@"+x.s+")", "@", mark(e), 1)), e})
	}
	checked(t, "6.4",
		told{asked("v()"), api.OK},
		told{asked("@v(1)"), api.ErrCount},
		told{asked("@two()"), api.ErrCount},
		told{asked("@two(1)"), api.ErrCount},
		told{asked("@two(true)"), api.ErrCount},
		told{asked("@two(1, p, 1)"), api.ErrCount},
		told{asked("@two(nil, 1, v())"), api.ErrCount},
		told{asked("two(@q)"), api.ErrName},
		told{asked("two(@q, r)"), api.ErrName},
		told{asked("two(1, @r, nil)"), api.ErrName},
		told{asked("two(nil, @r)"), api.ErrName},
		told{asked("two(@true, nil)"), api.ErrType},
		told{asked("two(@true, 1)"), api.ErrType},
		told{asked("two(1, @true)"), api.ErrType},
		told{asked("two(1 @< 2, 1)"), api.ErrType},
		told{asked("@un(1)"), api.ErrName},
		told{asked("@un()"), api.ErrName},
		told{asked("un(@q)"), api.ErrName},
		told{asked("un(1 @+ nil)"), api.ErrType},
		told{asked("@get(1)"), api.ErrName},
		told{asked("@i(1)"), api.ErrName},
		told{asked("two(1, @two(1, p))"), api.ErrType},
		told{asked("two(1, two(1, p)@.x)"), api.ErrType},
		told{asked("two(1, two(1, two(1, nil).y).y)"), api.OK})
}

// mark returns what stands ahead of what is wrong.
func mark(e api.Errno) string {
	if e == api.OK {
		return ""
	}
	return "@"
}

// TestInvoke (6.4): each operand, methods that are there and not, and their arguments.
func TestInvoke(t *testing.T) {
	takers := map[string]string{"P": "1", "Q": "true", "I": "1", "J": "1"}
	for _, x := range operands() {
		arg, ok := takers[x.of]
		switch {
		case ok:
			given(t, x.s+"%.get("+arg+")", "int")
		case x.of == "E":
			checked(t, "6.4", told{asked(x.s + "@.get(1)"), api.ErrName})
		default:
			checked(t, "6.4", told{asked(x.s + "@.get(1)"), api.ErrType}, told{asked(x.s + "@.get()"), api.ErrType}, told{asked(x.s + "@.un(1)"), api.ErrType})
		}
	}
	given(t, "p%.give(p, p, nil)", "[]P")
	given(t, "p.give(nil, i, l)[0]%.give(nil, nil, make([]int, 1))", "[]P")
	checked(t, "6.4",
		told{asked("p.none(); j.more(); new(Q).more()"), api.OK},
		told{asked("@q.get(r)"), api.ErrName},
		told{asked("1.get(@r)"), api.ErrName},
		told{asked("p.un(@r)"), api.ErrName},
		told{asked("p.get(@r, 1)"), api.ErrName},
		told{asked("v().get(1 @+ nil)"), api.ErrType},
		told{asked("p@.un(nil)"), api.ErrName},
		told{asked("p@.x()"), api.ErrName},
		told{asked("p@.f(1)"), api.ErrName},
		told{asked("i@.give(p, p, l)"), api.ErrName},
		told{asked("e@.get(1)"), api.ErrName},
		told{asked("p@.get()"), api.ErrCount},
		told{asked("p@.get(nil, nil)"), api.ErrCount},
		told{asked("p@.get(p, 1)"), api.ErrCount},
		told{asked("i@.get()"), api.ErrCount},
		told{asked("i@.get(true, 1)"), api.ErrCount},
		told{asked("p@.none(v())"), api.ErrCount},
		told{asked("p.get(@true)"), api.ErrType},
		told{asked("i.get(@nil)"), api.ErrType},
		told{asked("p.get(@v())"), api.ErrType},
		told{asked("p.give(@i, 1, nil)"), api.ErrType},
		told{asked("p.give(p, @e, nil)"), api.ErrType},
		told{asked("p.give(p, @new(Q), 1)"), api.ErrType},
		told{asked("p.give(nil, nil, @make([]P, 1))"), api.ErrType},
		told{asked("p.none()@.x = 1"), api.ErrType},
		told{asked("two(1, nil)@.none()"), api.ErrName})
}

// TestInOrder (6.4): of several wrong parts the leftmost is met, ahead of what they are parts of.
func TestInOrder(t *testing.T) {
	checked(t, "6.4",
		told{asked("print(two(@q, r).x + s)"), api.ErrName},
		told{asked("print(1 @+ nil == q)"), api.ErrType},
		told{asked("print(nil + (@q))"), api.ErrName},
		told{asked("print(un(un2(@q)))"), api.ErrName},
		told{asked("print(un(@un2()))"), api.ErrName},
		told{asked("print(p.get(@un2()).x)"), api.ErrName},
		told{asked("print(l[0 @+ nil] + q)"), api.ErrType},
		told{asked("print(make([]@R, q))"), api.ErrName})
}
