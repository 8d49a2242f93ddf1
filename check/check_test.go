package check_test

import (
	"fmt"
	"reflect"
	"strings"
	"testing"

	"turnstone/api"
	"turnstone/check"
	"turnstone/kinds"
	"turnstone/parse"
)

// told is what Check is to answer of a text: an @ stands ahead of what is wrong.
type told struct {
	s string
	e api.Errno
}

// unmarked returns a text without its @, and the place where that stood.
func unmarked(s string) (string, api.Place) {
	ahead, behind, found := strings.Cut(s, "@")
	if !found {
		return s, api.Place{}
	}
	return ahead + behind, api.Place{Line: 1 + strings.Count(ahead, "\n"), Col: len(ahead) - strings.LastIndex(ahead, "\n")}
}

// tree returns the tree of a text that Parse accepts.
func tree(t *testing.T, s string) api.Node {
	t.Helper()
	n, at, e := parse.Parse(s)
	if e != api.OK {
		t.Fatalf("4.1: Parse of %q is %d at %v", s, e, at)
	}
	return n
}

// checked holds what Check answers of each text against what it is to answer.
func checked(t *testing.T, promise string, l ...told) {
	t.Helper()
	for _, c := range l {
		s, want := unmarked(c.s)
		info, at, e := check.Check(tree(t, s))
		if e != c.e || at != want {
			t.Errorf("%s: Check of %q is %d at %v, not %d at %v", promise, c.s, e, at, c.e, want)
		}
		if e != api.OK && !reflect.DeepEqual(info, check.Info{}) {
			t.Errorf("6.6: Check of %q answers %+v beside an error", c.s, info)
		}
		if e == api.OK && (!kinds.Right(info.Types) || info.Main < 0 || info.Main >= len(info.Funcs)) {
			t.Errorf("6.1: Check of %q answers %+v", c.s, info)
		}
	}
}

// known returns what Check answers of a text that is a program.
func known(t *testing.T, s string) check.Info {
	t.Helper()
	info, at, e := check.Check(tree(t, s))
	if e != api.OK || at != (api.Place{}) {
		t.Fatalf("6.6: Check of %q is %d at %v", s, e, at)
	}
	return info
}

// repeated writes a text so many times, each with its number from 0 on at the place of each #.
func repeated(s string, times int) string {
	var b strings.Builder
	for i := range times {
		b.WriteString(strings.ReplaceAll(s, "#", fmt.Sprint(i)))
	}
	return b.String()
}

// typeNames returns the names of all types behind those of kinds.Base.
func typeNames(info check.Info) string {
	var l []string
	for i := 5; i < len(info.Types); i++ {
		l = append(l, kinds.Name(info.Types, i))
	}
	return strings.Join(l, " ")
}

const plainMain = "\nfunc main() { }"

// TestExamples (6.5): those of the chapter.
func TestExamples(t *testing.T) {
	checked(t, "6.5",
		told{"func main() { x := @nil }", api.ErrType},
		told{"func f() int { for { } }" + plainMain, api.OK},
		told{"@func f() int { for { break } }" + plainMain, api.ErrEnd})
}

// TestLeast (6.1): the least program.
func TestLeast(t *testing.T) {
	info := known(t, "func main() { }")
	if !reflect.DeepEqual(info.Types, kinds.Base()) || info.Main != 0 || len(info.Funcs) != 1 {
		t.Fatalf("6.1: %+v", info)
	}
	if f := info.Funcs[0]; f.Name != "main" || f.Recv != 0 || len(f.Params) != 0 || f.Result != 0 {
		t.Errorf("6.1: %+v", f)
	}
}

// TestTypes (6.1): every field of every type, declared ones ahead of Slices whatever stands first in the text.
func TestTypes(t *testing.T) {
	info := known(t, `
func (q Q) two(a []bool, b P) []I { return nil }
type P struct {
	x int; ok bool; s string; q Q
	i I; l []P
}
func main() { }
type I interface { two([]bool, P) []I; none() }
func (p P) one() { }
type Q struct { }
func (q Q) none() { }
type E interface { }
`)
	want := append(kinds.Base(),
		api.Type{Kind: api.Struct, Name: "P",
			Fields:  []api.Field{{Name: "x", Type: 1}, {Name: "ok", Type: 2}, {Name: "s", Type: 3}, {Name: "q", Type: 7}, {Name: "i", Type: 6}, {Name: "l", Type: 9}},
			Methods: []api.Method{{Name: "one", Func: 2}}},
		api.Type{Kind: api.Face, Name: "I", Methods: []api.Method{{Name: "two", Params: []int{11, 5}, Result: 10, Func: -1}, {Name: "none", Func: -1}}},
		api.Type{Kind: api.Struct, Name: "Q", Methods: []api.Method{{Name: "two", Params: []int{11, 5}, Result: 10, Func: 0}, {Name: "none", Func: 3}}},
		api.Type{Kind: api.Face, Name: "E"},
		api.Type{Kind: api.Slice, Elem: 5}, api.Type{Kind: api.Slice, Elem: 6}, api.Type{Kind: api.Slice, Elem: 2})
	if len(info.Types) != len(want) {
		t.Fatalf("6.1: %+v", info.Types)
	}
	for i := range want {
		if !kinds.Same(info.Types[i], want[i]) {
			t.Errorf("6.1: type %d is %+v, not %+v", i, info.Types[i], want[i])
		}
	}
	if !kinds.Has(info.Types, 7, 6) || !kinds.Has(info.Types, 5, 8) || kinds.Has(info.Types, 5, 6) {
		t.Error("6.1: Has of these types")
	}
}

// TestFuncs (6.1): functions and methods in the order of the file, with their receivers.
func TestFuncs(t *testing.T) {
	info := known(t, `
func b(x int, y []P, z I) P { return nil }
func (p P) main(x bool) string { return "" }
type I interface { }
func main() { }
type P struct { }
func (self P) b() { }
func a() []int { return nil }
`)
	want := []check.Sig{{Name: "b", Params: []int{1, 7, 5}, Result: 6}, {Name: "main", Recv: 6, Params: []int{6, 2}, Result: 3},
		{Name: "main", Params: []int{}}, {Name: "b", Recv: 6, Params: []int{6}}, {Name: "a", Params: []int{}, Result: 8}}
	if len(info.Funcs) != len(want) || info.Main != 2 {
		t.Fatalf("6.1: %+v", info)
	}
	for i, f := range info.Funcs {
		if fmt.Sprint(f) != fmt.Sprint(want[i]) {
			t.Errorf("6.1: function %d is %+v, not %+v", i, f, want[i])
		}
	}
}

// TestSlices (6.1): the order in which they occur first.
func TestSlices(t *testing.T) {
	for _, c := range []struct{ s, want string }{
		{"func main() { var x [][]int }", "[]int [][]int"},
		{"func main() { var x [][][]bool; var y []bool; var z [][]bool }", "[]bool [][]bool [][][]bool"},
		{"func main() { var x []int; var y [][][]int }", "[]int [][]int [][][]int"},
		{"func f(a []int, b [][]bool) []string { return nil }; func main() { }", "[]string []int []bool [][]bool"},
		{"func f(a []int) { }; func g() []bool { return nil }; func main() { }", "[]int []bool"},
		{"func main() { var x []int }; func f(a []string) { }; type P struct { b []bool }", "P []bool []string []int"},
		{"func f() { var x []int }; func main() { var x []bool }; func g(x []string) { var y []P }; type P struct { }", "P []string []int []bool []P"},
		{"type I interface { m([]int, []bool) []string }; func main() { }", "I []string []int []bool"},
		{"type I interface { m([]int); k() []bool }; type P struct { x []string; y [][]P }; func main() { }", "I P []int []bool []string []P [][]P"},
		{"type P struct { }; func (p P) m(a []int) []bool { return nil }; type Q struct { x []string }; func main() { }", "P Q []string []bool []int"},
		{"func main() { x := make([]int, len(make([]bool, 1))); { var y []string }; z := make([][]int, 1) }", "[]int []bool []string [][]int"},
		{"type E interface { }; type P struct { l []P }; func main() { var e E; print(e.(P).l == make([]E, 2)) }", ""},
		{"type E interface { }; type P struct { }; func f(a []P, b []E) { }; func main() { f(make([]P, len(make([]int, 1))), make([]E, 1)) }", "E P []P []E []int"},
		{"func f() []string { return make([]string, len(make([]int, 0))) }; func main() { if len(make([]bool, 1)) == 1 { f() } else { for len(make([][]int, 1)) > 0 { } } }", "[]string []int []bool [][]int"},
		{"type E interface { }; func main() { var e []E = nil; e[len(make([]int, 1))] = nil; print(len(make([]bool, 1)) - len(make([]string, 1))) }", "E []E []int []bool []string"},
	} {
		if c.want == "" {
			checked(t, "6.4", told{strings.Replace(c.s, "==", "@==", 1), api.ErrType})
			continue
		}
		if got := typeNames(known(t, c.s)); got != c.want {
			t.Errorf("6.1: the types of %q are %s, not %s", c.s, got, c.want)
		}
	}
}

// TestMain (6.1, 6.2): the function that a program begins with.
func TestMain(t *testing.T) {
	for i, s := range []string{"func main() { }; func f() { }", "func f() { }; func main() { return }", "type P struct { }; func (p P) main() int { return 1 }; func f() { }; func main() { }"} {
		if got := known(t, s).Main; got != i {
			t.Errorf("6.1: Main of %q is %d", s, got)
		}
	}
	checked(t, "6.2",
		told{"@", api.ErrName},
		told{"@\n\n  func f() { }", api.ErrName},
		told{"@func main(a int) { }", api.ErrName},
		told{"@func main() int { return 1 }", api.ErrName},
		told{"@func main(a int) int { return 1 }", api.ErrName},
		told{"@func Main() { }", api.ErrName},
		told{"@type main struct { }", api.ErrName},
		told{"@type P struct { }; func (p P) main() { }", api.ErrName},
		told{"type P struct { main int }; func main() { main() }", api.OK})
}

// TestSharesNothing (R2): lists of one answer, and of two answers, lie in memory of their own.
func TestSharesNothing(t *testing.T) {
	const s = "type P struct { x int; y []int }; type I interface { m(int, []int) }; func (p P) m(a int, b []int) { }; func f(a, b int) { }; func main() { }"
	n := tree(t, strings.Replace(s, "a, b int", "a int, b int", 1))
	first, _, _ := check.Check(n)
	second, _, _ := check.Check(n)
	before := fmt.Sprintf("%+v", second)
	blot(&first)
	if fmt.Sprintf("%+v", second) != before {
		t.Error("R2: two answers share memory")
	}
	if third, _, _ := check.Check(n); fmt.Sprintf("%+v", third) != before {
		t.Error("R4: a later answer differs")
	}
}

// blot writes into each list of an answer, behind its end too, and looks whether another list of it changes.
func blot(info *check.Info) {
	info.Types = append(info.Types, api.Type{Name: "blot"})
	for i := range info.Types {
		own := &info.Types[i]
		own.Fields = append(own.Fields, api.Field{Name: "blot"})
		for j := range own.Methods {
			m := &own.Methods[j]
			m.Params = append(m.Params, 77)
			for k := range m.Params {
				m.Params[k] = 77
			}
		}
		own.Methods = append(own.Methods, api.Method{Name: "blot"})
	}
}

// TestListsOfOneAnswer (R2): the parameters of a method and of its function are two lists.
func TestListsOfOneAnswer(t *testing.T) {
	info := known(t, "type P struct { }; type I interface { m(int, bool) }; func (p P) m(a int, b bool) { }; func main() { }")
	blot(&info)
	if got := fmt.Sprint(info.Funcs); got != "[{m 5 [5 1 2] 0} {main 0 [] 0}]" {
		t.Errorf("R2: the functions are %s behind a change of the types", got)
	}
	info = known(t, "type P struct { }; type I interface { m(int, bool) }; func (p P) m(a int, b bool) { }; func main() { }")
	for i := range info.Funcs {
		l := append(info.Funcs[i].Params, 77, 77, 77)
		for j := range l {
			l[j] = 77
		}
	}
	for _, own := range info.Types[5:] {
		if got := fmt.Sprint(own.Methods[0].Params); got != "[1 2]" {
			t.Errorf("R2: a method takes %s behind a change of the functions", got)
		}
	}
}
