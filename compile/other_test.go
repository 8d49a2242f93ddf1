package compile_test

import (
	"fmt"
	"reflect"
	"strings"
	"testing"

	"turnstone/api"
	"turnstone/check"
	"turnstone/compile"
)

// ordinary has every kind of node.
const ordinary = `type P struct { x int; l [][]P; i I }
type I interface { m(int, []bool) string; n() }
func (p P) m(a int, b []bool) string { return "a" + "b" }
func (p P) n() { }
func f(a int, p P, i I) int {
	var x int = -a; var y []int
	z := make([]int, 2); z[0] = x; y = nil
	if !true && 1 < x { return len(z) } else if false { { x = input() } } else { p.x = i.(P).x }
	for x == 1 { break; continue }
	for { p.n(); print(i.m(1, nil)); return f(x, new(P), nil) }
}
func main() { f(1, nil, nil) }
`

// nodes calls do with each node of a tree.
func nodes(n *api.Node, do func(n *api.Node)) {
	do(n)
	for i := range n.Kids {
		nodes(&n.Kids[i], do)
	}
}

// answers asks Compile about a tree that no text may have, and looks whether its answer is whole.
func answers(t *testing.T, n api.Node) api.Errno {
	t.Helper()
	p, at, e := compile.Compile(n)
	_, wantAt, want := check.Check(n)
	if (e != want || at != wantAt) && (e != api.ErrLong || want != api.OK) {
		t.Fatalf("8.1: Compile answers %d at %v, and Check %d at %v", e, at, want, wantAt)
	}
	if e != api.OK && !reflect.DeepEqual(p, api.Prog{}) {
		t.Fatalf("R3: Compile answers %+v beside %d", p, e)
	}
	return e
}

// TestTurnedTrees (8.1, R1): the call ends whatever stands at any node of a tree.
func TestTurnedTrees(t *testing.T) {
	whole := tree(t, ordinary)
	wantSound(t, program(t, ordinary))
	count, taken := 0, 0
	nodes(&whole, func(*api.Node) { count++ })
	for at := range count {
		for _, turn := range turns() {
			n, left := tree(t, ordinary), at
			nodes(&n, func(n *api.Node) {
				if left == 0 {
					turn(n)
				}
				left--
			})
			if answers(t, n) == api.OK {
				taken++
			}
		}
	}
	if taken < count {
		t.Errorf("only %d turned trees are taken", taken)
	}
}

// turns returns ways to turn a node into another one.
func turns() []func(n *api.Node) {
	l := []func(n *api.Node){
		func(n *api.Node) { *n = api.Node{} },
		func(n *api.Node) { n.Name = "" },
		func(n *api.Node) { n.Name = "int" },
		func(n *api.Node) { n.Name = "nil" },
		func(n *api.Node) { n.Name = "P" },
		func(n *api.Node) { n.Name = "x" },
		func(n *api.Node) { n.Name = "&" },
		func(n *api.Node) { n.N = -1 << 63; n.Line, n.Col = -1, -1<<63 },
		func(n *api.Node) { n.Kids = nil },
		func(n *api.Node) { n.Kids = n.Kids[:len(n.Kids)/2] },
		func(n *api.Node) { n.Kids = n.Kids[len(n.Kids)/2:] },
		func(n *api.Node) { n.Kids = append(n.Kids[:len(n.Kids):len(n.Kids)], n.Kids...) },
		func(n *api.Node) { n.Kids = append(n.Kids[:len(n.Kids):len(n.Kids)], api.Node{}) },
		func(n *api.Node) { n.Kids = []api.Node{*n} },
		func(n *api.Node) { n.Kids = []api.Node{*n, *n, *n, *n} },
	}
	for kind := -1; kind <= api.NNone+1; kind++ {
		l = append(l,
			func(n *api.Node) { n.Kind = kind },
			func(n *api.Node) { n.Kids = append([]api.Node{{Kind: kind}}, n.Kids...) },
			func(n *api.Node) { n.Kids = append(n.Kids[:len(n.Kids):len(n.Kids)], api.Node{Kind: kind, Name: "x"}) })
	}
	return l
}

// TestStrangeRoots (8.1, R1): any node may be handed in.
func TestStrangeRoots(t *testing.T) {
	answers(t, api.Node{})
	for kind := -2; kind <= api.NNone+2; kind++ {
		answers(t, api.Node{Kind: kind})
		answers(t, api.Node{Kind: kind, Name: "main", Kids: []api.Node{{Kind: kind, Name: "main"}}})
		answers(t, api.Node{Kind: api.NFile, Kids: []api.Node{{Kind: kind, Name: "main"}, {Kind: kind}}})
		n := tree(t, ordinary)
		n.Kids = append(n.Kids, api.Node{Kind: kind, Name: "other"})
		answers(t, n)
	}
	for i := range 5 {
		answers(t, api.Node{Kind: api.NFile, Kids: []api.Node{{Kind: api.NFunc, Name: "main", Kids: make([]api.Node, i)}}})
	}
}

// mainOf puts a body into a main.
func mainOf(body ...api.Node) api.Node {
	none := api.Node{Kind: api.NNone}
	block := api.Node{Kind: api.NBlock, Kids: body}
	return api.Node{Kind: api.NFile, Kids: []api.Node{{Kind: api.NFunc, Name: "main", Kids: []api.Node{none, none, block}}}}
}

// TestPartsTooMany (8.1, R1): a variable may be declared behind the parts of an NIf or an NFor, where no text has anything.
func TestPartsTooMany(t *testing.T) {
	const types = "type P struct { x int; p P }; type I interface { m(I) I; n() }; func (p P) m(i I) I { return i }; func (p P) n() { }; "
	for _, branching := range []string{"for true { }", "if true { }", "if true { } else { }"} {
		for _, declared := range []string{"var y int", "y := new(P)", "var y I", "y := make([]P, 1)", "y := \"\"", "{ y := 1 }", "print(1)"} {
			for _, used := range []string{"y = y", "print(y + 1)", "print(y + y)", "print(y > y)", "print(nil == y)", "print(len(y))", "y.x = 1", "print(y.p.x)",
				"y.n()", "y.m(y)", "y.m(nil).m(y)", "y[0] = nil", "print(y[0])", "print(y[0].p.x)", "y[0].n()", "y.(P).n()", "z := y", "var z I = y", "print(1)"} {
				n := tree(t, types+"func main() { "+branching+"; "+declared+"; "+used+" }")
				body := &n.Kids[len(n.Kids)-1].Kids[2]
				body.Kids[0].Kids = append(body.Kids[0].Kids, body.Kids[1])
				body.Kids = append(body.Kids[:1], body.Kids[2:]...)
				answers(t, n)
			}
		}
	}
}

// TestHiddenByParts (8.1, R1): such a variable may hide another one, whose methods take more or fewer arguments.
func TestHiddenByParts(t *testing.T) {
	const types = "type P struct { x int }; func (p P) m(a int, q P) { }; type Q struct { }; func (q Q) m() { }; "
	for _, c := range [][3]string{{"P", "Q", "y.m()"}, {"Q", "P", "y.m(1, nil)"}, {"Q", "P", "y.x = y.x"}, {"int", "P", "y.m(y.x, y)"}} {
		n := tree(t, types+"func main() { }; func f(y "+c[0]+") { for true { }; y := new("+c[1]+"); "+c[2]+" }")
		body := &n.Kids[len(n.Kids)-1].Kids[2]
		body.Kids[0].Kids = append(body.Kids[0].Kids, body.Kids[1])
		body.Kids = append(body.Kids[:1], body.Kids[2:]...)
		if e := answers(t, n); e != api.OK {
			t.Errorf("8.1: %v: %d", c, e)
		}
	}
}

// TestPartsTooFew (8.1, R1): main may lack its body, or all behind the head of its statements.
func TestPartsTooFew(t *testing.T) {
	none := api.Node{Kind: api.NNone}
	for count := range 4 {
		n := mainOf()
		n.Kids[0].Kids = n.Kids[0].Kids[:count]
		if e := answers(t, n); (e == api.OK) != (count > 1) {
			t.Errorf("8.1: main with %d parts: %d", count, e)
		}
	}
	for kind := 0; kind <= api.NNone+1; kind++ {
		for count := range 5 {
			n := api.Node{Kind: kind, Name: "main"}
			for range count {
				n.Kids = append(n.Kids, none)
			}
			answers(t, mainOf(n))
			if count > 0 {
				n.Kids[0] = api.Node{Kind: api.NTrue}
			}
			answers(t, mainOf(n))
		}
	}
}

// TestEndlessTrees (8.1, R1): a tree may hold itself, once or many times.
func TestEndlessTrees(t *testing.T) {
	for kind := 0; kind <= api.NNone+1; kind++ {
		for _, width := range []int{1, 2, 5} {
			n := api.Node{Kind: kind, Name: "-", Kids: make([]api.Node, width)}
			for i := range n.Kids {
				n.Kids[i] = n
			}
			for _, whole := range []api.Node{n, mainOf(n), mainOf(api.Node{Kind: api.NPrint, Kids: []api.Node{n}})} {
				if answers(t, whole) == api.OK {
					t.Errorf("8.1: a tree of kind %d that holds itself is a program", kind)
				}
			}
		}
	}
}

// TestGreatTrees (8.1, R1): deep trees, and those whose nodes share their parts.
func TestGreatTrees(t *testing.T) {
	for _, depth := range []int{100, 10000, 1 << 16} {
		for kind := 0; kind <= api.NNone+1; kind++ {
			deep, shared := api.Node{Kind: api.NInt}, api.Node{Kind: api.NInt}
			for range depth {
				deep = api.Node{Kind: kind, Name: "-", Kids: []api.Node{deep}}
			}
			for range 100 {
				shared = api.Node{Kind: kind, Name: "-", Kids: []api.Node{shared, shared, shared}}
			}
			for _, n := range []api.Node{deep, shared} {
				answers(t, n)
				answers(t, mainOf(n))
				answers(t, mainOf(api.Node{Kind: api.NFor, Kids: []api.Node{{Kind: api.NTrue}, {Kind: api.NPrint, Kids: []api.Node{n}}}}))
			}
		}
	}
}

// roomy copies a tree so that each list of it has room behind its end, which is filled.
func roomy(n api.Node) api.Node {
	l := make([]api.Node, 0, len(n.Kids)+3)
	for _, k := range n.Kids {
		l = append(l, roomy(k))
	}
	for i := len(l); i < cap(l); i++ {
		l[:cap(l)][i] = api.Node{Kind: 99, Name: "room"}
	}
	n.Kids = l
	return n
}

// spelled tells all of a tree, with what lies behind the ends of its lists.
func spelled(n api.Node) string {
	var b strings.Builder
	b.WriteString(fmt.Sprint("(", n.Kind, " ", n.Name, " ", n.N, " ", n.Line, " ", n.Col, " ", len(n.Kids)))
	for _, k := range n.Kids[:cap(n.Kids)] {
		b.WriteString(spelled(k))
	}
	return b.String() + ")"
}

// TestUntouched (R2): Compile changes nothing of the tree, and nothing behind the ends of its lists.
func TestUntouched(t *testing.T) {
	for _, s := range []string{ordinary, many, ordinary + "func g() { x = 1 }", "func f() { x := " + ands(1000) + " }" + plainMain} {
		n := roomy(tree(t, s))
		before := spelled(n)
		p, at, e := compile.Compile(n)
		if spelled(n) != before {
			t.Errorf("R2: Compile turned the tree of %.80q", s)
		}
		if q, at2, e2 := compile.Compile(tree(t, s)); at != at2 || e != e2 || !reflect.DeepEqual(p, q) {
			t.Errorf("R4: %.80q: %d at %v, and %d at %v", s, e, at, e2, at2)
		}
	}
}

// TestKeepsNothing (R2): an answer does not hang on what becomes of the tree.
func TestKeepsNothing(t *testing.T) {
	n := tree(t, ordinary)
	p, _, _ := compile.Compile(n)
	nodes(&n, func(n *api.Node) { n.Name, n.Kind, n.N = "other", 0, 77 })
	if !reflect.DeepEqual(p, program(t, ordinary)) {
		t.Error("R2: the answer changed with the tree")
	}
}

// list is one of a program's: blot writes over all of it, also over the room behind its end, and tell says what it holds.
type list struct {
	blot func()
	tell func() string
}

func listOf[T any](l []T, blot T) list {
	return list{
		func() {
			for i := range l[:cap(l)] {
				l[:cap(l)][i] = blot
			}
		},
		func() string { return fmt.Sprint(l) },
	}
}

// innerLists returns the lists of a program that hold no lists.
func innerLists(p api.Prog) []list {
	l := []list{listOf(p.Texts, "blot"), listOf(p.Nums, 77)}
	for _, of := range p.Types {
		l = append(l, listOf(of.Fields, api.Field{Name: "blot"}))
		for _, m := range of.Methods {
			l = append(l, listOf(m.Params, 77))
		}
	}
	for _, f := range p.Funcs {
		l = append(l, listOf(f.Params, 77), listOf(f.Locals, 77), listOf(f.Code, api.Instr{Op: 77}))
	}
	return l
}

// TestListsOfOneAnswer (R2): no two of them share memory.
func TestListsOfOneAnswer(t *testing.T) {
	for turned := range innerLists(program(t, ordinary)) {
		l := innerLists(program(t, ordinary))
		var before []string
		for _, one := range l {
			before = append(before, one.tell())
		}
		l[turned].blot()
		for i, one := range l {
			if i != turned && one.tell() != before[i] {
				t.Errorf("R2: list %d changed with list %d: %s, not %s", i, turned, one.tell(), before[i])
			}
		}
	}
}

// TestSharesNothing (R2, R4): two answers share no list, and none hangs on an earlier one.
func TestSharesNothing(t *testing.T) {
	n := tree(t, ordinary)
	first, _, _ := compile.Compile(n)
	second, _, _ := compile.Compile(n)
	for _, one := range innerLists(first) {
		one.blot()
	}
	for _, of := range first.Types {
		listOf(of.Methods, api.Method{Name: "blot"}).blot()
	}
	listOf(first.Types, api.Type{Name: "blot"}).blot()
	listOf(first.Funcs, api.Func{Name: "blot"}).blot()
	if third, _, _ := compile.Compile(n); !reflect.DeepEqual(second, third) {
		t.Error("R2: two answers share memory")
	}
}
