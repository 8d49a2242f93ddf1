package check_test

import (
	"fmt"
	"reflect"
	"strings"
	"testing"

	"turnstone/api"
	"turnstone/check"
)

// ordinary has every kind of node.
const ordinary = `type P struct { x int; l [][]P; i I }
type I interface { m(int, []bool) string; n() }
func (p P) m(a int, b []bool) string { return "a" + "b" }
func (p P) n() { }
func f(a int, p P, i I) int {
	var x int = -a; var y []int
	z := make([]int, 2); z[0] = x; y = nil
	if !true && 1 < x { return len(z) } else if false { { x = input() } } else { p.x = i.(P).x }
	for x == 1 { break; continue }
	for { p.n(); print(i.m(1, nil)); return f(x, new(P), nil) }
}
func main() { f(1, nil, nil) }
`

// answers asks Check about a tree that no text may have, and looks whether its answer is whole.
func answers(t *testing.T, n api.Node) api.Errno {
	t.Helper()
	info, at, e := check.Check(n)
	if e == api.OK && at != (api.Place{}) || e != api.OK && !reflect.DeepEqual(info, check.Info{}) {
		t.Fatalf("6.6: Check answers %+v, %v, %d", info, at, e)
	}
	return e
}

// nodes calls do with each node of a tree.
func nodes(n *api.Node, do func(n *api.Node)) {
	do(n)
	for i := range n.Kids {
		nodes(&n.Kids[i], do)
	}
}

// TestTurnedTrees (6.1): the call ends whatever stands at any node of a tree.
func TestTurnedTrees(t *testing.T) {
	whole := tree(t, ordinary)
	count := 0
	nodes(&whole, func(*api.Node) { count++ })
	if answers(t, whole) != api.OK {
		t.Fatal("6.1: the ordinary text is no program")
	}
	for at := range count {
		for _, turn := range turns() {
			n, left := tree(t, ordinary), at
			nodes(&n, func(n *api.Node) {
				if left == 0 {
					turn(n)
				}
				left--
			})
			answers(t, n)
		}
	}
}

// turns returns ways to turn a node into another one.
func turns() []func(n *api.Node) {
	l := []func(n *api.Node){
		func(n *api.Node) { *n = api.Node{} },
		func(n *api.Node) { n.Name = "" },
		func(n *api.Node) { n.Name = "int" },
		func(n *api.Node) { n.Name = "nil" },
		func(n *api.Node) { n.Name = "P" },
		func(n *api.Node) { n.Name = "x" },
		func(n *api.Node) { n.Name = "&" },
		func(n *api.Node) { n.N = -1 << 63; n.Line, n.Col = -1, -1<<63 },
		func(n *api.Node) { n.Kids = nil },
		func(n *api.Node) { n.Kids = n.Kids[:len(n.Kids)/2] },
		func(n *api.Node) { n.Kids = n.Kids[len(n.Kids)/2:] },
		func(n *api.Node) { n.Kids = append(n.Kids[:len(n.Kids):len(n.Kids)], n.Kids...) },
		func(n *api.Node) { n.Kids = append(n.Kids[:len(n.Kids):len(n.Kids)], api.Node{}) },
		func(n *api.Node) { n.Kids = []api.Node{*n} },
		func(n *api.Node) { n.Kids = []api.Node{*n, *n, *n, *n} },
	}
	for kind := -1; kind <= api.NNone+1; kind++ {
		l = append(l, func(n *api.Node) { n.Kind = kind }, func(n *api.Node) { n.Kids = append([]api.Node{{Kind: kind}}, n.Kids...) })
	}
	return l
}

// TestStrangeRoots (6.1): any node may be handed in.
func TestStrangeRoots(t *testing.T) {
	answers(t, api.Node{})
	for kind := -2; kind <= api.NNone+2; kind++ {
		answers(t, api.Node{Kind: kind})
		answers(t, api.Node{Kind: kind, Name: "main", Kids: []api.Node{{Kind: kind, Name: "main"}}})
		answers(t, api.Node{Kind: api.NFile, Kids: []api.Node{{Kind: kind, Name: "main"}, {Kind: kind}}})
	}
	for i := range 5 {
		answers(t, api.Node{Kind: api.NFile, Kids: []api.Node{{Kind: api.NFunc, Name: "main", Kids: make([]api.Node, i)}}})
	}
}

// wrapped puts a node into the body of main, as a statement, as an Expr, and as a type.
func wrapped(n api.Node) []api.Node {
	none := api.Node{Kind: api.NNone}
	within := func(stmt api.Node) api.Node {
		body := api.Node{Kind: api.NBlock, Kids: []api.Node{stmt}}
		return api.Node{Kind: api.NFile, Kids: []api.Node{{Kind: api.NFunc, Name: "main", Kids: []api.Node{none, none, body}}}}
	}
	return []api.Node{n, within(n), within(api.Node{Kind: api.NPrint, Kids: []api.Node{n}}), within(api.Node{Kind: api.NVar, Kids: []api.Node{n, none}})}
}

// TestEndlessTrees (6.1, R1): a tree may hold itself, once or many times.
func TestEndlessTrees(t *testing.T) {
	for kind := 0; kind <= api.NNone+1; kind++ {
		for _, width := range []int{1, 2, 5} {
			n := api.Node{Kind: kind, Name: "-", Kids: make([]api.Node, width)}
			for i := range n.Kids {
				n.Kids[i] = n
			}
			for _, whole := range wrapped(n) {
				if e := answers(t, whole); e == api.OK {
					t.Errorf("6.1: a tree of kind %d that holds itself is a program", kind)
				}
			}
		}
	}
}

// TestGreatTrees (6.1, R1): deep trees, wide ones, and those whose nodes share their parts.
func TestGreatTrees(t *testing.T) {
	for kind := 0; kind <= api.NNone+1; kind++ {
		deep, shared := api.Node{Kind: api.NInt}, api.Node{Kind: api.NInt}
		for range 1 << 16 {
			deep = api.Node{Kind: kind, Name: "-", Kids: []api.Node{deep}}
		}
		for range 100 {
			shared = api.Node{Kind: kind, Name: "-", Kids: []api.Node{shared, shared, shared}}
		}
		wide := api.Node{Kind: kind, Kids: make([]api.Node, 1<<18)}
		for _, n := range []api.Node{deep, shared, wide} {
			for _, whole := range wrapped(n) {
				answers(t, whole)
			}
		}
	}
}

// TestLongNames (6.1): names that are longer than a text.
func TestLongNames(t *testing.T) {
	n := tree(t, strings.ReplaceAll(ordinary, "f(", "ff("))
	nodes(&n, func(n *api.Node) {
		if n.Name == "x" || n.Name == "ff" {
			n.Name = strings.Repeat(n.Name, 1<<18)
		}
	})
	if e := answers(t, n); e != api.OK {
		t.Errorf("6.1: %d", e)
	}
}

// roomy copies a tree so that each list of it has room behind its end, which is filled.
func roomy(n api.Node) api.Node {
	l := make([]api.Node, 0, len(n.Kids)+3)
	for _, k := range n.Kids {
		l = append(l, roomy(k))
	}
	for i := len(l); i < cap(l); i++ {
		l[:cap(l)][i] = api.Node{Kind: 99, Name: "room"}
	}
	n.Kids = l
	return n
}

// spelled tells all of a tree, with what lies behind the ends of its lists.
func spelled(n api.Node) string {
	var b strings.Builder
	b.WriteString(fmt.Sprint("(", n.Kind, " ", n.Name, " ", n.N, " ", n.Line, " ", n.Col, " ", len(n.Kids)))
	for _, k := range n.Kids[:cap(n.Kids)] {
		b.WriteString(spelled(k))
	}
	return b.String() + ")"
}

// TestUntouched (R2): Check changes nothing of the tree, and nothing behind the ends of its lists.
func TestUntouched(t *testing.T) {
	texts := []string{ordinary}
	for _, f := range faults() {
		s, _ := unmarked(f.s)
		texts = append(texts, s+plainMain, s)
	}
	for _, s := range texts {
		n := roomy(tree(t, s))
		before := spelled(n)
		_, at, e := check.Check(n)
		if spelled(n) != before {
			t.Errorf("R2: Check turned the tree of %q", s)
		}
		if _, at2, e2 := check.Check(tree(t, s)); at != at2 || e != e2 {
			t.Errorf("R4: %q: %d at %v, and %d at %v", s, e, at, e2, at2)
		}
	}
}

// TestKeepsNothing (R2): an answer does not hang on what becomes of the tree.
func TestKeepsNothing(t *testing.T) {
	n := tree(t, ordinary)
	info, _, _ := check.Check(n)
	before := fmt.Sprintf("%+v", info)
	nodes(&n, func(n *api.Node) { n.Name, n.Kind = "other", 0 })
	if fmt.Sprintf("%+v", info) != before {
		t.Error("R2: the answer changed with the tree")
	}
}

// TestGreatestTexts (6.1): the texts with the most nodes are walked whole.
func TestGreatestTexts(t *testing.T) {
	for _, c := range []told{
		{"func f(a int) { " + repeated("a = a; ", 990) + "}" + plainMain, api.OK},
		{"func f() { " + repeated("return; ", 1980) + "}" + plainMain, api.OK},
		{"func f() { " + repeated("{ }; ", 1320) + "}" + plainMain, api.OK},
		{"func f() { " + repeated("for { }; ", 990) + "@break }" + plainMain, api.ErrPlace},
		{"func f(a int) { a = a" + repeated(" + a", 1970) + " + @q }" + plainMain, api.ErrName},
		{"func f() bool { return " + strings.Repeat("!", 3950) + "true }" + plainMain, api.OK},
		{"func f() bool { return " + strings.Repeat("!", 3950) + "@-true }" + plainMain, api.ErrType},
		{"func f() { " + repeated("if true { } else ", 700) + "{ @q() } }" + plainMain, api.ErrName},
		{"type P struct { p P }; func f(p P) { p = p" + strings.Repeat(".p", 1960) + "@.q }" + plainMain, api.ErrName},
		{"func f(a int) { print(@f(" + repeated("a, ", 1960) + "a)) }" + plainMain, api.ErrCount},
		{"@func f(" + repeated("a# int, ", 1300) + "b int) { }" + plainMain, api.ErrCount},
	} {
		checked(t, "6.1", c)
	}
}
