package show_test

import (
	"math"
	"strings"
	"testing"

	"turnstone/api"
	"turnstone/parse"
	"turnstone/show"
)

// maker makes right trees by numbers that follow a fixed rule.
type maker struct {
	number uint64
	left   int // how many more nodes may have Kids
}

// pick is a number below n.
func (m *maker) pick(n int) int {
	m.number = m.number*6364136223846793005 + 1442695040888963407
	return int(m.number >> 33 % uint64(n))
}

func (m *maker) one(l string) string {
	words := strings.Fields(l)
	return words[m.pick(len(words))]
}

func (m *maker) name() string {
	return m.one("a b c1 _ lens iff Int x")
}

// many are at most so many parts.
func (m *maker) many(most int, make func() api.Node) []api.Node {
	var l []api.Node
	for range m.pick(most + 1) {
		l = append(l, make())
	}
	return l
}

func (m *maker) maybe(make func() api.Node) api.Node {
	if m.pick(2) == 0 {
		return none
	}
	return make()
}

// few tells whether only what has no parts is made from now on.
func (m *maker) few() bool {
	m.left--
	return m.left < 0
}

func (m *maker) decl() api.Node {
	m.left = 60
	switch m.pick(5) {
	case 0:
		return node(api.NStruct, m.name(), m.many(3, m.field)...)
	case 1:
		return node(api.NFace, m.name(), m.many(3, m.method)...)
	}
	first := []api.Node{m.maybe(m.receiver), m.maybe(m.aType), m.block()}
	return node(api.NFunc, m.name(), append(first, m.many(3, m.param)...)...)
}

func (m *maker) field() api.Node {
	return node(api.NField, m.name(), m.aType())
}

func (m *maker) param() api.Node {
	return node(api.NParam, m.name(), m.aType())
}

func (m *maker) receiver() api.Node {
	return node(api.NParam, m.name(), node(api.NTypeName, m.name()))
}

func (m *maker) method() api.Node {
	return node(api.NMethod, m.name(), append([]api.Node{m.maybe(m.aType)}, m.many(3, m.aType)...)...)
}

func (m *maker) aType() api.Node {
	switch m.pick(5) {
	case 0:
		return sliceOf(m.aType())
	case 1:
		return node(api.NTypeName, m.one("int bool string"))
	}
	return node(api.NTypeName, m.name())
}

func (m *maker) block() api.Node {
	return node(api.NBlock, "", m.many(3, m.stmt)...)
}

func (m *maker) stmt() api.Node {
	if m.few() {
		return node(api.NContinue, "")
	}
	switch m.pick(12) {
	case 0:
		return m.block()
	case 1:
		return node(api.NVar, m.name(), m.aType(), m.maybe(m.expr))
	case 2, 3:
		return m.choice()
	case 4:
		return node(api.NFor, "", m.maybe(m.expr), m.block())
	case 5:
		return node(api.NBreak, "")
	case 6:
		return node(api.NContinue, "")
	case 7:
		return node(api.NReturn, "", m.maybe(m.expr))
	case 8:
		return node(api.NPrint, "", m.expr())
	case 9:
		return node(api.NDefine, "", m.expr(), m.expr())
	case 10:
		return node(api.NAssign, "", m.expr(), m.expr())
	}
	return node(api.NExpr, "", m.expr())
}

func (m *maker) choice() api.Node {
	other := m.block
	if m.pick(2) == 0 {
		other = m.choice
	}
	return node(api.NIf, "", m.expr(), m.block(), m.maybe(other))
}

func (m *maker) expr() api.Node {
	if m.few() {
		return m.leaf()
	}
	switch m.pick(14) {
	case 0:
		return node(api.NUnary, m.one("- !"), m.expr())
	case 1, 2:
		return node(api.NBinary, m.one("|| && == != < <= > >= + - * / %"), m.expr(), m.expr())
	case 3:
		return node(api.NCall, m.name(), m.many(3, m.expr)...)
	case 4:
		return node(api.NSelect, m.name(), m.expr())
	case 5:
		return node(api.NInvoke, m.name(), append([]api.Node{m.expr()}, m.many(2, m.expr)...)...)
	case 6:
		return node(api.NAt, "", m.expr(), m.expr())
	case 7:
		return node(api.NLen, "", m.expr())
	case 8:
		return node(api.NMake, "", m.aType(), m.expr())
	case 9:
		return node(api.NNew, "", m.aType())
	case 10:
		return node(api.NCast, "", m.expr(), m.aType())
	}
	return m.leaf()
}

func (m *maker) leaf() api.Node {
	switch m.pick(7) {
	case 0:
		return number([]int64{0, 1, 42, math.MaxInt64}[m.pick(4)])
	case 1:
		return node(api.NText, []string{"", "a", "\n\t\"\\", "// a", "; }", "\\n", "~ !"}[m.pick(7)])
	case 2:
		return node(api.NTrue, "")
	case 3:
		return node(api.NFalse, "")
	case 4:
		return node(api.NNil, "")
	case 5:
		return node(api.NInput, "")
	}
	return node(api.NName, m.name())
}

// TestMade (5.1, 5.2, 5.3): trees that are made by a fixed rule are right, and come back from their text, and from texts in any layout.
func TestMade(t *testing.T) {
	kinds := map[int]int{}
	for seed := range 600 {
		m := &maker{number: uint64(seed) * 7919}
		n := file(m.many(4, m.decl)...)
		if !show.Right(n) {
			t.Fatalf("5.1: not right: %s", told(n))
		}
		s := show.Print(n)
		wantLaidOut(t, s)
		if _, _, e := parse.Parse(s); e == api.ErrLong || e == api.ErrDeep {
			continue
		}
		wantBack(t, n, s)
		wantFromLoose(t, m, n, s)
		count(n, kinds)
	}
	for k := api.NFile; k <= api.NNone; k++ {
		if kinds[k] < 50 {
			t.Errorf("only %d nodes of the kind %d were made", kinds[k], k)
		}
	}
}

// count counts the kinds of the nodes of n.
func count(n api.Node, kinds map[int]int) {
	kinds[n.Kind]++
	for _, k := range n.Kids {
		count(k, kinds)
	}
}

// wantFromLoose fails the test if another text of n is not parsed to a right tree that is printed as s.
func wantFromLoose(t *testing.T, m *maker, n api.Node, s string) {
	t.Helper()
	loose := spelled(n, m.pick)
	back, place, e := parse.Parse(loose)
	if e == api.ErrLong || e == api.ErrDeep {
		return
	}
	if e != api.OK || told(back) != told(n) {
		t.Fatalf("%q: error %d at %v, %s, not %s", loose, e, place, told(back), told(n))
	}
	if !show.Right(back) || show.Print(back) != s || !show.Same(back, n) {
		t.Errorf("5.3: %q is printed as %q, not %q", loose, show.Print(back), s)
	}
}

// wantLaidOut fails the test if the lines of s do not have a tab for each block that they are in, or end with a space.
func wantLaidOut(t *testing.T, s string) {
	t.Helper()
	if s != "" && !strings.HasSuffix(s, "\n") {
		t.Errorf("5.2: %q does not end with a line feed", short(s))
	}
	blocks := 0
	for _, line := range strings.Split(strings.TrimSuffix(s, "\n"), "\n") {
		rest := strings.TrimLeft(line, "\t")
		if strings.HasPrefix(rest, "}") {
			blocks--
		}
		if len(line)-len(rest) != blocks || strings.TrimRight(rest, " \t") != rest || rest == "" && s != "" {
			t.Errorf("5.2: %d blocks about the line %q", blocks, line)
		}
		if strings.HasSuffix(rest, "{") {
			blocks++
		}
	}
}

// TestParsed (5.3): texts that are parsed, printed, parsed again and printed again.
func TestParsed(t *testing.T) {
	for _, s := range []string{
		"", ";;\n", "// a", ordinary, "type P struct { x int };;; func f() { }", "func f() { return - - ! a }",
		"func f() { x = ((((1)))) }", "func f() { x = 1 + 2 * 3 - 4 / 5 % 6 == 7 && 8 < 9 || a != b }", "func f() { x = (1 + 2) * (3 - (4)) }", "func f() { x = -a.b[c].d(e).(F) * -1 }",
		"func f() { (a).b(); }", "func f() { 5 := \"a\"; nil = nil; true }", "func f() { x = 007 }", "func f() {\n\n\n{;;}\n}",
		"func f() { x = " + strings.Repeat("-", 3000) + "a }", "func f() { x = a" + strings.Repeat(".a[1]", 700) + " }", "func f() { if a { }" + strings.Repeat(" else if a { }", 600) + " }",
		"func f() { x = " + strings.Repeat("(", 38) + "a" + strings.Repeat(")", 38) + " }", "func f() { " + strings.Repeat("{", 40) + strings.Repeat("}", 40) + " }", "func f() { x = a" + strings.Repeat(" + a", 1900) + " }",
	} {
		n, _, e := parse.Parse(s)
		if e != api.OK {
			t.Fatalf("%q: %d", short(s), e)
		}
		first := show.Print(n)
		wantLaidOut(t, first)
		if !show.Right(n) || (first == "") != (len(n.Kids) == 0) {
			t.Errorf("5.3: %q is printed as %q", short(s), short(first))
		}
		if _, _, e := parse.Parse(first); e != api.ErrLong && e != api.ErrDeep {
			wantBack(t, n, first)
		}
	}
}

// TestTooDeep (5.3): the parentheses of the printed text count when it is read; without them it would not be too deep.
func TestTooDeep(t *testing.T) {
	for times, want := range map[int]api.Errno{api.MaxNest - 2: api.OK, api.MaxNest - 1: api.ErrDeep} {
		n, _, e := parse.Parse("func f() { x = " + strings.Repeat("-", times) + "a }")
		if e != api.OK {
			t.Fatal(e)
		}
		s := show.Print(n)
		if _, _, e := parse.Parse(s); !show.Right(n) || e != want {
			t.Errorf("5.3: %q: error %d, not %d", s, e, want)
		}
	}
}
