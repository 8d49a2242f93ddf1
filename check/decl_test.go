package check_test

import (
	"slices"
	"strings"
	"testing"

	"turnstone/api"
	"turnstone/check"
	"turnstone/kinds"
)

// TestTypeNames (6.2): round 1, what is declared twice, and how many types may be.
func TestTypeNames(t *testing.T) {
	forty := repeated("type T# struct { }\n", 20) + repeated("type I# interface { }\n", 20)
	checked(t, "6.2",
		told{"type P struct { }; @type P struct { }" + plainMain, api.ErrTwice},
		told{"type P struct { }; @type P interface { }" + plainMain, api.ErrTwice},
		told{"type P interface { }; type Q struct { }; @type P struct { }; type Q struct { }" + plainMain, api.ErrTwice},
		told{"type P struct { }; type p struct { }" + plainMain, api.OK},
		told{"type f struct { f f }; func f(f f) f { return f.f }" + plainMain, api.OK},
		told{forty + plainMain, api.OK},
		told{forty + "@type X struct { }" + plainMain, api.ErrCount},
		told{forty + "  @type X interface { }\ntype T0 struct { }" + plainMain, api.ErrCount},
		told{forty + "@type T0 struct { }\ntype X struct { }" + plainMain, api.ErrTwice},
		told{plainMain + "\n" + forty + "func f() { }\n@type I20 struct { x Q }", api.ErrCount},
	)
}

// TestMembers (6.2): round 2, fields and methods, their names and how many they are.
func TestMembers(t *testing.T) {
	fields, methods := repeated("f# int\n", 12), repeated("m#()\n", 12)
	checked(t, "6.2",
		told{"type P struct { x int; @x int }" + plainMain, api.ErrTwice},
		told{"type P struct { x int; y bool\n @x Q }" + plainMain, api.ErrTwice},
		told{"type P struct { x @Q; x int }" + plainMain, api.ErrName},
		told{"type P struct { x int; X int }; type Q struct { x int }" + plainMain, api.OK},
		told{"type I interface { m(); @m(int) }" + plainMain, api.ErrTwice},
		told{"type I interface { m(@Q); m() }" + plainMain, api.ErrName},
		told{"type I interface { m(); M() }; type J interface { m() }" + plainMain, api.OK},
		told{"type P struct {\n" + fields + "}" + plainMain, api.OK},
		told{"type P struct {\n" + fields + "@more int }" + plainMain, api.ErrCount},
		told{"type P struct {\n" + fields + "@f0 int }" + plainMain, api.ErrTwice},
		told{"type P struct {\n" + fields + "@more Q }" + plainMain, api.ErrCount},
		told{"type P struct {\n" + fields + "}; type Q struct {\n" + fields + "}" + plainMain, api.OK},
		told{"type I interface {\n" + methods + "}" + plainMain, api.OK},
		told{"type I interface {\n" + methods + "@more(int, int, int, int, int, int, int, int, int) Q }" + plainMain, api.ErrCount},
		told{"type I interface {\n" + methods + "@more() }" + plainMain, api.ErrCount},
		told{"type I interface {\n" + methods + "@more(Q) }" + plainMain, api.ErrCount},
		told{"type I interface {\n" + methods + "@m11() }" + plainMain, api.ErrTwice},
		told{"type I interface { m(int, int, int, int, int, int, int, []int) bool }" + plainMain, api.OK},
		told{"type I interface { k()\n  @m(int, int, int, int, int, int, int, int, Q) }" + plainMain, api.ErrCount},
		told{"type I interface { m(int)\n  @m(int, int, int, int, int, int, int, int, Q) }" + plainMain, api.ErrTwice},
	)
}

// TestWritten (6.2): round 2, the types that fields and methods name.
func TestWritten(t *testing.T) {
	checked(t, "6.2",
		told{"type P struct { x @Q }" + plainMain, api.ErrName},
		told{"type P struct { x []@Q }" + plainMain, api.ErrName},
		told{"type P struct { x [][]@Q; y R }" + plainMain, api.ErrName},
		told{"type P struct { x @main }" + plainMain, api.ErrName},
		told{"type P struct { x @x }" + plainMain, api.ErrName},
		told{"type P struct { x @p }" + plainMain, api.ErrName},
		told{"type P struct { x P; y []P; z Q }; type Q interface { m(P, Q) []Q }" + plainMain, api.OK},
		told{"type I interface { m(Q) @R }" + plainMain, api.ErrName},
		told{"type I interface { m(@Q, R) }" + plainMain, api.ErrName},
		told{"type I interface { m(int, []@Q) int }" + plainMain, api.ErrName},
		told{"type I interface { m() []@Q }; type P struct { x R }" + plainMain, api.ErrName},
		told{"type P struct { x @R }; type I interface { m() []Q }" + plainMain, api.ErrName},
	)
}

// roomFor declares 39 types and so many Slices that, with one more declared type X, there is room for so many more.
func roomFor(left int) string {
	return repeated("type T# struct { }\n", 38) + "type L struct { f " + strings.Repeat("[]", 15-left) + "T0 }\n"
}

// TestMostTypes (6.2): how many types a program may have, wherever a type is written.
func TestMostTypes(t *testing.T) {
	full := known(t, roomFor(0)+"type X struct { }"+plainMain)
	if len(full.Types) != api.MaxTypes || !kinds.Right(full.Types) {
		t.Fatalf("6.1: %d types", len(full.Types))
	}
	for _, form := range []string{
		"type X struct { x TYPE }\nfunc main() { }",
		"type X struct { x int; y TYPE }\nfunc main() { }",
		"type X interface { m(TYPE) }\nfunc main() { }",
		"type X interface { m(int, TYPE) bool }\nfunc main() { }",
		"type X interface { m() TYPE }\nfunc main() { }",
		"type X struct { }; func f(x TYPE) { }\nfunc main() { }",
		"type X struct { }; func f(y bool, x TYPE) int { return 1 }\nfunc main() { }",
		"type X struct { }; func f() TYPE { return nil }\nfunc main() { }",
		"type X struct { }; func (x X) f(y TYPE) { }\nfunc main() { }",
		"type X struct { }; func (x X) f() TYPE { return nil }\nfunc main() { }",
		"type X struct { }; func main() { var x TYPE }",
		"type X struct { }; func main() { var x TYPE = make(TYPE, 1); x = nil }",
		"type X struct { }; func main() { x := make(TYPE, 1) }",
		"type X struct { }; func main() { if 1 < 2 { } else { for { print(len(make(TYPE, 1))) } } }",
	} {
		with := func(left int, ty string) string {
			first := strings.Replace(form, "TYPE", ty, 1)
			return roomFor(left) + strings.ReplaceAll(first, "TYPE", strings.Replace(ty, "@", "", 1))
		}
		checked(t, "6.2",
			told{with(0, "[][]T0"), api.OK},
			told{with(0, "@[]int"), api.ErrCount},
			told{with(0, "[]@[]int"), api.ErrCount},
			told{with(0, "[][]@Q"), api.ErrName},
			told{with(1, "[]int"), api.OK},
			told{with(1, "@[][]int"), api.ErrCount},
			told{with(1, "[]@[][]int"), api.ErrCount},
			told{with(2, "[][]int"), api.OK},
			told{with(2, "@[][][]int"), api.ErrCount})
	}
}

// TestMostTypesOfOthers (6.2): types that are written where no Slice may stand, and those that are not new.
func TestMostTypesOfOthers(t *testing.T) {
	checked(t, "6.2",
		told{roomFor(0) + "type X struct { }; func main() { y := new(@[]int) }", api.ErrCount},
		told{roomFor(1) + "type X struct { }; func main() { y := @new([]int) }", api.ErrType},
		told{roomFor(0) + "type X interface { }; func main() { var i X; print(i.(@[]int)) }", api.ErrCount},
		told{roomFor(1) + "type X interface { }; func main() { var i X; print(i@.([]int)) }", api.ErrType},
		told{roomFor(0) + "type X struct { }; func f(x []T0) [][]T0 { return nil }; func main() { var y []T0 = make([]T0, 1) }", api.OK},
		told{roomFor(1) + "type X struct { a []X; b []X }; func f(x []X) []X { return nil }; func main() { var y []X = f(nil) }", api.OK},
		told{roomFor(1) + "type X struct { a []X; b []X }; func f(x []X, y @[]int) []X { return nil }; func main() { }", api.ErrCount})
}

// TestFuncNames (6.2): round 3, names of functions and methods.
func TestFuncNames(t *testing.T) {
	const p = "type P struct { f int; g []P }; type Q struct { }; type I interface { h() }\n"
	checked(t, "6.2",
		told{p + "func f() { }; @func f() { }" + plainMain, api.ErrTwice},
		told{p + "func f() { }; func g() { }; @func f(a Q) int { }; func g() { }" + plainMain, api.ErrTwice},
		told{p + "func main() { }\n@func main(a R) { }", api.ErrTwice},
		told{p + "func f() { }; func F() { }; func (q Q) f() { }; func (q Q) F() { }" + plainMain, api.OK},
		told{p + "func (q Q) f() { }; func f() { }; func (p P) h() { }; func h() { }" + plainMain, api.OK},
		told{p + "func (p @R) f() { }" + plainMain, api.ErrName},
		told{p + "func (p @I) h() { }" + plainMain, api.ErrName},
		told{p + "func (p @p) h() { }" + plainMain, api.ErrName},
		told{p + "func (p @main) h() { }" + plainMain, api.ErrName},
		told{p + "@func (p P) f() { }" + plainMain, api.ErrTwice},
		told{p + "@func (p P) g(a R, a R) { }" + plainMain, api.ErrTwice},
		told{p + "func (p P) h() { }; @func (p P) h() { }" + plainMain, api.ErrTwice},
		told{p + "func (p P) h() { }; func (p Q) h() { }; @func (q P) h(a R) { }" + plainMain, api.ErrTwice},
		told{p + "func (p P) x() { }; func (q Q) P() { }; func (q Q) q() { }" + plainMain, api.OK})
}

// TestMostFuncs (6.2): round 3, how many functions, methods and parameters may be.
func TestMostFuncs(t *testing.T) {
	const p = "type P struct { f int; g []P }; type Q struct { }\n"
	sixty := repeated("func f#() { }\n", 58) + "func (q Q) m() { }\n"
	methods := repeated("func (p P) m#() { }\n", 12)
	full := repeated("x# int\n", 12)
	checked(t, "6.2",
		told{p + sixty + "func main() { }", api.OK},
		told{p + "func main() { }\n" + sixty + "@func f() { }", api.ErrCount},
		told{p + "func main() { }\n" + sixty + "@func (q Q) k() { }", api.ErrCount},
		told{p + "func main() { }\n" + sixty + "@func f0() { }", api.ErrTwice},
		told{p + "func main() { }\n" + sixty + "@func (q Q) m() { }", api.ErrTwice},
		told{p + "func main() { }\n" + sixty + "func (q @R) m() { }", api.ErrName},
		told{p + "func main() { }\n" + sixty + "@func k(a Q, a R) { }", api.ErrCount},
		told{p + methods + plainMain, api.OK},
		told{p + methods + "@func (p P) k() { }" + plainMain, api.ErrCount},
		told{p + methods + "@func (p P) k(a R, a R) { }" + plainMain, api.ErrCount},
		told{p + methods + "@func (p P) m3() { }" + plainMain, api.ErrTwice},
		told{p + methods + "@func (p P) f() { }" + plainMain, api.ErrTwice},
		told{p + methods + "func (q Q) m0() { }; func m0() { }" + plainMain, api.OK},
		told{"type P struct {\n" + full + "}\n" + methods + plainMain, api.OK},
		told{"func f(a int, b int, c int, d int, e int, f int, g int, h int) { }" + plainMain, api.OK},
		told{"@func f(a int, b int, c int, d int, e int, f int, g int, h int, i int) { }" + plainMain, api.ErrCount},
		told{"@func f(a int, a int, c int, d int, e int, f int, g int, h int, i R) R { }" + plainMain, api.ErrCount},
		told{"type P struct { }; func (p P) f(a int, b int, c int, d int, e int, f int, g int) { }" + plainMain, api.OK},
		told{"type P struct { }; @func (p P) f(a int, b int, c int, d int, e int, f int, g int, h int) { }" + plainMain, api.ErrCount})
	info := known(t, p+methods+plainMain)
	if len(info.Types[5].Methods) != api.MaxFields || info.Types[5].Methods[11].Func != 11 {
		t.Errorf("6.1: %+v", info.Types[5])
	}
	if info := known(t, p+sixty+plainMain); len(info.Funcs) != api.MaxFuncs || info.Main != 59 {
		t.Errorf("6.1: %d functions, main %d", len(info.Funcs), info.Main)
	}
}

// TestParams (6.2): round 3, names of parameters, and the types of a function.
func TestParams(t *testing.T) {
	const p = "type P struct { f int }\n"
	checked(t, "6.2",
		told{p + "func f(a int, @a int) { }" + plainMain, api.ErrTwice},
		told{p + "func f(a int, b int, @b R, a R) R { }" + plainMain, api.ErrTwice},
		told{p + "func f(a int, b int, @a R, b R, a R) { }" + plainMain, api.ErrTwice},
		told{p + "func f(a int, @a int, a int) { }" + plainMain, api.ErrTwice},
		told{p + "func (a P) g(@a int) { }" + plainMain, api.ErrTwice},
		told{p + "func (a P) g(b int, @b int, a int) { }" + plainMain, api.ErrTwice},
		told{p + "func (P P) P(p P) { }; func (f P) g(g P) { }; func h(h P, H P) { }" + plainMain, api.OK},
		told{p + "func f(a R) @S { }" + plainMain, api.ErrName},
		told{p + "func f(a R) [][]@S { }" + plainMain, api.ErrName},
		told{p + "func f(a @R, b S) P { }" + plainMain, api.ErrName},
		told{p + "func f(a int, b []@R, c S) { }" + plainMain, api.ErrName},
		told{p + "func (p P) g(a @R) { }" + plainMain, api.ErrName},
		told{p + "func f(a @R) { }; func f() { }" + plainMain, api.ErrName},
		told{p + "func f() { var x S }; func g(a @R) { }" + plainMain, api.ErrName})
}

// fault is a piece of a text in which something is wrong, and the round in which that is met.
type fault struct {
	round int
	e     api.Errno
	s     string
}

// faults returns pieces that can stand together in any order, each with a name of its own.
func faults() []fault {
	return []fault{
		{1, api.ErrTwice, "type A struct { }; @type A struct { }"},
		{1, api.ErrTwice, "type B interface { }; @type B struct { x R }"},
		{2, api.ErrTwice, "type C struct { x int; @x int }"},
		{2, api.ErrName, "type D struct { x @R }"},
		{2, api.ErrCount, "type E interface { @m(int, int, int, int, int, int, int, int, int) }"},
		{2, api.ErrName, "type F interface { m(int) []@R }"},
		{3, api.ErrTwice, "func g() { }; @func g() { }"},
		{3, api.ErrName, "func (p @R) h() { }"},
		{3, api.ErrTwice, "type H struct { h int }; @func (p H) h() { }"},
		{3, api.ErrCount, "@func i(a int, b int, c int, d int, e int, f int, g int, h int, i int) { }"},
		{3, api.ErrTwice, "func j(a int, @a int) { }"},
		{3, api.ErrName, "func k() @R { }"},
		{3, api.ErrName, "func l(a @R) { }"},
		{5, api.ErrName, "func m() { x := @y }"},
		{5, api.ErrType, "func n() { x := @nil }"},
		{5, api.ErrPlace, "func o() { @break }"},
		{5, api.ErrEnd, "@func p() int { }"},
		{5, api.ErrTwice, "func q() { var x int; @var x int }"},
	}
}

// TestRounds (6.2): of two pieces that are wrong, in either order, the one whose round comes first is met, or the one that stands first.
func TestRounds(t *testing.T) {
	for i, a := range faults() {
		checked(t, "6.2", told{a.s + plainMain, a.e}, told{"func main() { }\n\n  " + a.s, a.e})
		for j, b := range faults() {
			if i == j {
				continue
			}
			first, second := a.s, strings.Replace(b.s, "@", "", 1)
			e := a.e
			if b.round < a.round {
				first, second, e = strings.Replace(a.s, "@", "", 1), b.s, b.e
			}
			checked(t, "6.2", told{first + "\n" + second + plainMain, e}, told{"func main() { }; " + first + "; " + second, e})
		}
	}
}

// TestRoundOfMain (6.2): that there is no main is met behind all heads of functions, and ahead of all bodies.
func TestRoundOfMain(t *testing.T) {
	for _, f := range faults() {
		want := told{f.s, f.e}
		if f.round > 3 {
			want = told{"@" + strings.Replace(f.s, "@", "", 1), api.ErrName}
		}
		checked(t, "6.2", want)
	}
}

// TestPlaceOfEach (6.2): the places are those of the nodes, wherever they stand in the text.
func TestPlaceOfEach(t *testing.T) {
	checked(t, "6.2",
		told{"\n\n\t type P struct {\n\tx int\n\t\t @x int\n}" + plainMain, api.ErrTwice},
		told{"type P struct { }\n   func   (p   @Q) f() { }" + plainMain, api.ErrName},
		told{"// none\ntype P struct {\n\n x [ ] [ ]\t@Q }" + plainMain, api.ErrName},
		told{"func main() {\n\n\tif true {\n\t\tx :=\n\t\t@nil\n}\n}", api.ErrType})
}

// TestKindsOfAnswers (6.2): only the numbers of the chapter are answered.
func TestKindsOfAnswers(t *testing.T) {
	for _, f := range faults() {
		s, _ := unmarked(f.s)
		_, _, e := check.Check(tree(t, s))
		if !slices.Contains([]api.Errno{api.ErrName, api.ErrTwice, api.ErrType, api.ErrCount, api.ErrPlace, api.ErrEnd}, e) {
			t.Errorf("6.2: %d of %q", e, s)
		}
	}
}
