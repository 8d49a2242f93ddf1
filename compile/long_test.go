package compile_test

import (
	"slices"
	"strings"
	"testing"

	"turnstone/api"
	"turnstone/code"
	"turnstone/compile"
)

// ands writes an Expr of 1 + 4 * times instructions.
func ands(times int) string {
	return "true" + strings.Repeat(" && true", times)
}

// TestMostCode (8.1): a function of exactly MaxCode instructions is taken, and one of one more is not.
func TestMostCode(t *testing.T) {
	for _, c := range []struct{ ahead, most, over string }{
		{"func main() { }; ", "func f() { x := " + ands(999) + "; return }", "func f() { x := " + ands(999) + "; return; return }"},
		{"func main() { }; func v() { }; ", "func f() bool { v(); return " + ands(999) + " }", "func f() bool { v(); v(); return " + ands(999) + " }"},
		{"func main() { }; type P struct { }; ", "func (p P) f() { p.f(); x := " + ands(998) + "; return; return; return }", "func (p P) f() { p.f(); x := " + ands(999) + " }"},
	} {
		p := program(t, c.ahead+"\n "+c.most)
		last := p.Funcs[len(p.Funcs)-1]
		if len(last.Code) != api.MaxCode {
			t.Errorf("8.1: %s has %d instructions", last.Name, len(last.Code))
		}
		if end := last.Code[api.MaxCode-1]; end != (api.Instr{Op: code.Ret}) && end != (api.Instr{Op: code.Jump, A: api.MaxCode - 1}) {
			t.Errorf("8.2: %s ends with %v", last.Name, end)
		}
		wantSound(t, p)
		over := refused{c.ahead + "\n @" + c.over, api.ErrLong}
		s, _ := unmarked(over.s)
		p, at, e := compile.Text(s)
		wantRefused(t, over, p, at, e)
	}
}

// TestFirstLong (8.1): ErrLong stands at the first such NFunc, whatever stands around it, and comes behind the errors of Check.
func TestFirstLong(t *testing.T) {
	long := "func f() { x := " + ands(1000) + " }"
	for _, c := range []refused{
		{"@" + long + plainMain, api.ErrLong},
		{"func main() { };  @" + long, api.ErrLong},
		{"type P struct { }\nfunc main() { }\n\n\t@" + strings.Replace(long, "func", "func (p P)", 1) + "; func g() { }", api.ErrLong},
		{long + "; func main() { x := @nil }", api.ErrType},
		{long + "; @func f() { }" + plainMain, api.ErrTwice},
		{"@" + strings.Replace(long, "f()", "g()", 1), api.ErrName},
	} {
		s, _ := unmarked(c.s)
		p, at, e := compile.Text(s)
		wantRefused(t, c, p, at, e)
	}
}

// TestSecondLong (8.1): of two functions that are too long the first one is told, which no text has room for.
func TestSecondLong(t *testing.T) {
	n := tree(t, "func g(a int) { a = a }\nfunc main() { }\n  func f(a int) { a = a }")
	for _, times := range [][2]int{{1999, 2000}, {2000, 2000}, {2000, 1}, {1, 2000}, {1, 2600}, {1999, 1999}} {
		for i, f := range []int{0, 2} {
			block := &n.Kids[f].Kids[2]
			block.Kids = slices.Repeat(block.Kids[:1:1], times[i])
		}
		p, at, e := compile.Compile(n)
		switch {
		case times[0] > 1999:
			wantLong(t, p, at, e, api.Place{Line: 1, Col: 1})
		case times[1] > 1999:
			wantLong(t, p, at, e, api.Place{Line: 3, Col: 3})
		default:
			if e != api.OK || len(p.Funcs[0].Code) != 3999 || len(p.Funcs[2].Code) != 3999 {
				t.Errorf("8.1: %d at %v", e, at)
			}
			wantSound(t, p)
		}
	}
}

func wantLong(t *testing.T, p api.Prog, at api.Place, e api.Errno, want api.Place) {
	t.Helper()
	if e != api.ErrLong || at != want || len(p.Funcs)+len(p.Types)+len(p.Nums)+len(p.Texts) > 0 {
		t.Errorf("8.1: %d at %v, not %d at %v", e, at, api.ErrLong, want)
	}
}

// TestLongExprs (8.2): expressions of as many parts as a text has room for.
func TestLongExprs(t *testing.T) {
	const around = "type P struct { p P; x int }; func (p P) m() P { return p }; "
	for _, c := range []struct {
		s    string
		want int
	}{
		{"func f(a int) { a = a" + strings.Repeat(" + a", 1900) + " }", 3803},
		{"func f(a int) { a = a" + strings.Repeat(" - 1", 1900) + " }", 3803},
		{"func f(a string) { a = a" + strings.Repeat(" + \"x\"", 1900) + " }", 3803},
		{"func f(a string) { print(a" + strings.Repeat(" + a", 950) + " > a" + strings.Repeat(" + a", 950) + ") }", 3805},
		{"func f(b bool) { b = " + strings.Repeat("!", 3800) + "b }", 3803},
		{"func f(a int) { a = " + strings.Repeat("-", 3800) + "a }", 3803},
		{"func f(b bool) { b = " + ands(900) + " }", 3603},
		{"func f(b bool) { b = b" + strings.Repeat(" == b", 1900) + " }", 3803},
		{"func f(p P) { p = p" + strings.Repeat(".p", 1900) + " }", 1903},
		{"func f(p P) { p" + strings.Repeat(".p", 1900) + ".x = 1 }", 1904},
		{"func f(p P) { print(nil == p" + strings.Repeat(".p", 1900) + ") }", 1905},
		{"func f(p P) { p = p" + strings.Repeat(".m()", 950) + " }", 953},
		{"func f(p P) { p = p" + strings.Repeat(".m().p", 600) + " }", 1203},
		{"func f() { " + strings.Repeat("if true { } else ", 780) + "{ } }", 780*3 + 1},
		{"func f() { " + strings.Repeat("return; ", 1900) + "}", 1901},
		{"func f(a int) { " + strings.Repeat("a = 5; ", 900) + "}", 1801},
	} {
		p := program(t, around+c.s+plainMain)
		if got := len(p.Funcs[1].Code); got != c.want {
			t.Errorf("8.2: %.80q has %d instructions, not %d", c.s, got, c.want)
		}
		wantSound(t, p)
	}
}
