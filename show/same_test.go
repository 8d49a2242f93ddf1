package show_test

import (
	"testing"

	"turnstone/api"
	"turnstone/parse"
	"turnstone/show"
)

// wantSame fails the test if Same does not tell this of the two trees, in both orders.
func wantSame(t *testing.T, a, b api.Node, want bool) {
	t.Helper()
	if show.Same(a, b) != want || show.Same(b, a) != want {
		t.Errorf("5.1: Same is not %t: %s, %s", want, short(told(a)), short(told(b)))
	}
}

// TestSame (5.1): trees that are right and trees that are not, held against each other.
func TestSame(t *testing.T) {
	l := append(others(), node(99, ""), node(-1, ""), node(api.NName, "b"), node(api.NCall, "f", a), node(api.NCall, "f", a, b), node(api.NCall, "f", b, a), node(api.NCall, "f", node(api.NCall, "f", a)),
		number(-1), number(6), api.Node{Kind: api.NName, Name: "a", N: 1}, node(api.NInt, ""), node(api.NUnary, "-", b), node(api.NUnary, "!", a), file(file()), file(nothing))
	for i, a := range l {
		for k, b := range l {
			wantSame(t, a, b, i == k)
		}
		wantSame(t, a, deepCopy(a), true)
		a.Line, a.Col = -7, 1<<40
		wantSame(t, a, l[i], true)
	}
	wantSame(t, api.Node{Kids: []api.Node{}}, api.Node{}, true)
	wantSame(t, node(api.NBlock, "", api.Node{Kind: api.NBreak, Kids: []api.Node{}}), node(api.NBlock, "", node(api.NBreak, "")), true)
}

// TestSameTurned (5.1): a tree is not the same as one that is turned in any node of its own, unless the turn leaves it as it was.
func TestSameTurned(t *testing.T) {
	whole, _, e := parse.Parse(ordinary)
	if e != api.OK {
		t.Fatal(e)
	}
	n := file(whole.Kids[5:8]...)
	want := told(n)
	for _, p := range paths(n) {
		for _, turned := range turns(n, p) {
			wantSame(t, n, turned, told(turned) == want)
		}
	}
}

// TestSameLayout (5.1): texts that differ in their layout alone have the same tree.
func TestSameLayout(t *testing.T) {
	n, _, _ := parse.Parse("func f(a int) int { return a+1 }")
	m, _, _ := parse.Parse("\n;func f ( a int ) int {\n\n return ((a) + (1)) ; ; }\n")
	wantSame(t, n, m, true)
	for _, s := range []string{"", "func f(a int) int { return a+2 }", "func f(a int) int { return a-1 }", "func g(a int) int { return a+1 }", "func f(a int) { return a+1 }", "func f(a int) int { return a+1; return }", "func f(b int) int { return a+1 }", "func f(a int) int { return 1+a }"} {
		m, _, e := parse.Parse(s)
		if e != api.OK {
			t.Fatal(e)
		}
		wantSame(t, n, m, false)
	}
}
