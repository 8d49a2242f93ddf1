package show_test

import (
	"math"
	"slices"
	"strings"
	"testing"

	"turnstone/api"
	"turnstone/parse"
	"turnstone/show"
)

// ordinary is a text with nodes of all kinds, in each place where they may stand.
const ordinary = `
type P struct { }; type Q struct { x int; y []P }; type I interface { }; type J interface { m() ; n(int, [][]P) []bool; k(string) P }
func f() { } ; func (p P) g(a int, b []P) [][]string { return a }
func h() bool { { }; { break }; var x T; var y []T = a; a := b; a.b = -c
if a { }; if a { } else { b }; if a { b } else if c { } else if d { } else { e }; for { }; for a { continue }; return
print(a); print("b"); a; f(); f(1, a.b(), !a); return a.b.c; return a[b]; return len(a); return make([]P, 5) }
func i() { return new([]P); return input(); return a.(P); return a.([]int); return true; return false == nil && 0 > 9223372036854775807; return "a\n\t\"\\" ; return a.m(b, c)[d]; return a || b ; return f(a)[g()] }`

// deepCopy is n with Kids of its own.
func deepCopy(n api.Node) api.Node {
	n.Kids = slices.Clone(n.Kids)
	for i := range n.Kids {
		n.Kids[i] = deepCopy(n.Kids[i])
	}
	return n
}

// paths are the ways from the root of n to each of its nodes.
func paths(n api.Node) [][]int {
	l := [][]int{{}}
	for i, k := range n.Kids {
		for _, p := range paths(k) {
			l = append(l, append([]int{i}, p...))
		}
	}
	return l
}

// at is the node of n to which that way leads.
func at(n *api.Node, path []int) *api.Node {
	for _, i := range path {
		n = &n.Kids[i]
	}
	return n
}

// isRight reports whether there is a text with the tree n, by writing the one that has it if any has.
func isRight(n api.Node) bool {
	back, _, e := parse.Parse(spelled(n, nil))
	return e == api.OK && told(back) == told(n)
}

// wantAsParsed fails the test if n, whose depth and length Parse takes, is not right just if Parse may return it.
func wantAsParsed(t *testing.T, n api.Node) bool {
	t.Helper()
	if !isRight(n) {
		wantWrong(t, n)
		return false
	}
	if !show.Right(n) {
		t.Errorf("5.1: not right: %s", told(n))
	}
	wantBack(t, n, show.Print(n))
	return true
}

// strange are Names, some of which are names, some signs, and some nothing at all.
var strange = []string{
	"", "a", "Z9", "_", "int", "bool", "string", "nil", "true", "struct", "func", "if", "len", "print", "input", "a b", " a", "a ", "a.b", "f()", "1", "1a", "(a)", "[]a", "a\n", "a;b", "a//",
	"-", "!", "+", "*", "/", "%", "<", "<=", ">", ">=", "==", "!=", "&&", "||", "&", "|", "=", ":=", "+ ", "--", "-+", "(", ".", ",", ";", "^", "++", "é", "aé", "\x00", "a\x00", "\x1f", "\x7f", "\x80", "\xff", "~", "\t", "\n", "\r", `"`, `\`, `\n`,
	strings.Repeat("x", api.MaxLen), strings.Repeat("x", api.MaxLen+1), strings.Repeat(`"`, api.MaxLen), strings.Repeat("\n", api.MaxLen+1),
}

// others are nodes of which each is right somewhere, or nowhere.
func others() []api.Node {
	l := []api.Node{{}, none, a, number(5), anInt, aT, slice, nothing, broken, file()}
	return append(l, node(api.NBreak, ""), node(api.NReturn, "", none), node(api.NReturn, "", a), node(api.NExpr, "", a), node(api.NIf, "", a, nothing, none), node(api.NFor, "", none, nothing),
		node(api.NParam, "p", aT), node(api.NParam, "p", slice), node(api.NField, "x", aT), node(api.NMethod, "m", none), node(api.NMethod, "m", aT), node(api.NStruct, "P"), node(api.NFace, "P"),
		node(api.NFunc, "f", none, none, nothing), node(api.NUnary, "-", a), node(api.NBinary, "+", a, b), node(api.NCall, "f"), node(api.NInput, ""), node(api.NText, ""), node(api.NVar, "x", aT, none))
}

// turns are trees that differ from n in the node to which that way leads.
func turns(n api.Node, path []int) []api.Node {
	var l []api.Node
	turn := func(how func(m *api.Node)) {
		n := deepCopy(n)
		how(at(&n, path))
		l = append(l, n)
	}
	for k := api.NFile - 2; k <= api.NNone+2; k++ {
		turn(func(m *api.Node) { m.Kind = k })
	}
	for _, s := range strange {
		turn(func(m *api.Node) { m.Name = s })
	}
	for _, k := range []int64{1, -1, math.MaxInt64, math.MinInt64} {
		turn(func(m *api.Node) { m.N = k })
	}
	kids := len(at(&n, path).Kids)
	for i := range kids {
		turn(func(m *api.Node) { m.Kids = slices.Delete(m.Kids, i, i+1) })
		turn(func(m *api.Node) { m.Kids[i], m.Kids[0] = m.Kids[0], m.Kids[i] })
		turn(func(m *api.Node) { m.Kids = m.Kids[:i] })
	}
	for _, k := range others() {
		for i := range kids + 1 {
			turn(func(m *api.Node) { m.Kids = slices.Insert(m.Kids, i, k) })
		}
		for i := range kids {
			turn(func(m *api.Node) { m.Kids[i] = k })
		}
	}
	return l
}

// TestTurned (5.1, 5.2, 5.3): a tree that is turned in one node, whichever it is and in whatever way, is right just if there is a text with it.
func TestTurned(t *testing.T) {
	whole, _, e := parse.Parse(ordinary)
	if e != api.OK {
		t.Fatal(e)
	}
	right, wrong, kinds := 0, 0, map[int]bool{}
	for _, d := range whole.Kids {
		n := file(d)
		for _, p := range paths(n) {
			kinds[at(&n, p).Kind] = true
			for _, turned := range turns(n, p) {
				if wantAsParsed(t, turned) {
					right++
				} else {
					wrong++
				}
			}
		}
	}
	if right < 2500 || wrong < 30000 || len(kinds) != api.NNone {
		t.Errorf("only %d trees were right and %d wrong, with %d kinds", right, wrong, len(kinds))
	}
}

// TestRoots (5.1): only an NFile is right.
func TestRoots(t *testing.T) {
	for k := api.NFile - 2; k <= api.NNone+2; k++ {
		if n := node(k, ""); k != api.NFile {
			wantWrong(t, n)
		} else {
			wantPrinted(t, n, "")
		}
	}
	wantWrong(t, node(api.NFunc, "f", none, none, nothing))
	wantWrong(t, file(file()))
	for _, k := range []int{math.MinInt, math.MaxInt, 1 << 32, 1<<32 + api.NFile} {
		wantWrong(t, node(k, ""))
		wantWrong(t, body(node(k, "")))
		wantWrong(t, returned(node(k, "a", a)))
	}
}

// TestNumbers (5.1): the numbers that a text can write.
func TestNumbers(t *testing.T) {
	for _, n := range []int64{0, 1, 10, math.MaxInt32 + 1, math.MaxInt64 - 1, math.MaxInt64} {
		if !wantAsParsed(t, returned(number(n))) {
			t.Errorf("5.1: %d", n)
		}
	}
	for _, n := range []int64{-1, -5, math.MinInt64 + 1, math.MinInt64} {
		wantWrong(t, returned(number(n)))
		wantWrong(t, returned(node(api.NUnary, "-", number(n))))
	}
}

// TestNames (5.1): the Names that a text can have, in each place where one stands.
func TestNames(t *testing.T) {
	uses := map[string]func(s string) api.Node{
		"NStruct": func(s string) api.Node { return file(node(api.NStruct, s)) },
		"NFace":   func(s string) api.Node { return file(node(api.NFace, s)) },
		"NField":  func(s string) api.Node { return file(node(api.NStruct, "P", node(api.NField, s, aT))) },
		"NMethod": func(s string) api.Node { return file(node(api.NFace, "P", node(api.NMethod, s, none))) },
		"NFunc":   func(s string) api.Node { return file(node(api.NFunc, s, none, none, nothing)) },
		"NParam": func(s string) api.Node {
			return file(node(api.NFunc, "f", none, none, nothing, node(api.NParam, s, aT)))
		},
		"receiver": func(s string) api.Node { return file(node(api.NFunc, "f", node(api.NParam, s, aT), none, nothing)) },
		"its type": func(s string) api.Node {
			return file(node(api.NFunc, "f", node(api.NParam, "r", node(api.NTypeName, s)), none, nothing))
		},
		"NTypeName": func(s string) api.Node { return returned(node(api.NNew, "", node(api.NTypeName, s))) },
		"NVar":      func(s string) api.Node { return body(node(api.NVar, s, aT, none)) },
		"NName":     func(s string) api.Node { return returned(node(api.NName, s)) },
		"NCall":     func(s string) api.Node { return returned(node(api.NCall, s)) },
		"NSelect":   func(s string) api.Node { return returned(node(api.NSelect, s, a)) },
		"NInvoke":   func(s string) api.Node { return returned(node(api.NInvoke, s, a)) },
	}
	words := "type struct interface func var if else for break continue return print len make new input true false nil int bool string"
	for place, use := range uses {
		for _, s := range []string{"a", "Z", "_", "a1", "_0", "iff", "Int", "nils", strings.Repeat("ab_9", 1000)} {
			if !wantAsParsed(t, use(s)) {
				t.Errorf("5.1: %s: %q", place, s)
			}
		}
		for _, s := range append(strings.Fields(words), "", "1", "1a", "a b", "a.b", "a-b", "é", "a\x00", "a\n", " a", "[]a", "-", "+") {
			if place == "NTypeName" && (s == "int" || s == "bool" || s == "string") {
				wantAsParsed(t, use(s))
			} else {
				wantWrong(t, use(s))
			}
		}
	}
}

// TestSigns (5.1): the signs of an NUnary and of an NBinary.
func TestSigns(t *testing.T) {
	joints := strings.Fields("|| && == != < <= > >= + - * / %")
	for _, s := range append(strange, joints...) {
		if one := returned(node(api.NUnary, s, a)); wantAsParsed(t, one) != (s == "-" || s == "!") {
			t.Errorf("5.1: NUnary %q", s)
		}
		if two := returned(node(api.NBinary, s, a, b)); wantAsParsed(t, two) != slices.Contains(joints, s) {
			t.Errorf("5.1: NBinary %q", s)
		}
	}
}

// TestTexts (5.1): what a Text may denote: each byte, and the longest ones.
func TestTexts(t *testing.T) {
	for k := range 256 {
		b := byte(k)
		may := b >= 32 && b <= 126 || b == '\n' || b == '\t'
		for _, s := range []string{string([]byte{b}), "a" + string([]byte{b}), string([]byte{b, b}) + "a"} {
			if wantAsParsed(t, returned(node(api.NText, s))) != may {
				t.Errorf("5.1: %q", s)
			}
		}
	}
	for _, s := range []string{"a", "\n", `"`} {
		wantAsParsed(t, returned(node(api.NText, strings.Repeat(s, api.MaxLen))))
		wantWrong(t, returned(node(api.NText, strings.Repeat(s, api.MaxLen+1))))
	}
}

// TestPlaces (5.1): places are nothing to whether a tree is right, to its text, and to Same.
func TestPlaces(t *testing.T) {
	whole, _, _ := parse.Parse(ordinary)
	want := show.Print(whole)
	for i, p := range paths(whole) {
		moved := deepCopy(whole)
		m := at(&moved, p)
		m.Line, m.Col = -i, math.MaxInt-i
		if !show.Right(moved) || show.Print(moved) != want || !show.Same(moved, whole) || !show.Same(whole, moved) {
			t.Errorf("5.1: moved at %v", p)
		}
	}
}

// TestUnlimited (5.1): trees that are right though no text that is short and shallow enough has them.
func TestUnlimited(t *testing.T) {
	many := 3 * api.MaxTokens
	stmts, args, types := make([]api.Node, many), make([]api.Node, many), []api.Node{none}
	for i := range many {
		stmts[i], args[i] = node(api.NBreak, ""), a
		types = append(types, anInt)
	}
	for want, n := range map[string]api.Node{
		"func f() {\n" + strings.Repeat("\tbreak\n", many) + "}\n":                                     body(stmts...),
		"func f() {\n\treturn g(" + strings.Repeat("a, ", many-1) + "a)\n}\n":                          returned(node(api.NCall, "g", args...)),
		"type P interface {\n\tm(" + strings.Repeat("int, ", many-1) + "int)\n}\n":                     file(node(api.NFace, "P", node(api.NMethod, "m", types...))),
		"func f() {\n\treturn " + strings.Repeat("x", api.MaxText) + "\n}\n":                           returned(node(api.NName, strings.Repeat("x", api.MaxText))),
		"func f() {\n\treturn new(" + strings.Repeat("[]", 100) + "T)\n}\n":                            returned(node(api.NNew, "", nest(aT, 100, sliceOf))),
		"func f() {\n\treturn " + strings.Repeat("(-", 100) + "a" + strings.Repeat(")", 100) + "\n}\n": returned(nest(a, 100, minusOf)),
	} {
		if got := show.Print(n); !show.Right(n) || got != want {
			t.Errorf("5.2: %q, not %q", short(got), short(want))
		}
		if _, _, e := parse.Parse(want); e != api.ErrLong && e != api.ErrDeep {
			t.Errorf("%q: %d", short(want), e)
		}
	}
}

func sliceOf(n api.Node) api.Node { return node(api.NSliceOf, "", n) }
func minusOf(n api.Node) api.Node { return node(api.NUnary, "-", n) }

// nested are trees with 2^16 - 10 parts of one kind in one another (R6), and n in the innermost one.
func nested(n api.Node) map[string]api.Node {
	const times = 1<<16 - 10
	exprs := map[string]func(n api.Node) api.Node{
		"NUnary":         minusOf,
		"NBinary, left":  func(n api.Node) api.Node { return node(api.NBinary, "+", n, a) },
		"NBinary, right": func(n api.Node) api.Node { return node(api.NBinary, "&&", a, n) },
		"NCall":          func(n api.Node) api.Node { return node(api.NCall, "f", a, n) },
		"NSelect":        func(n api.Node) api.Node { return node(api.NSelect, "x", n) },
		"NInvoke":        func(n api.Node) api.Node { return node(api.NInvoke, "m", n, a) },
		"NAt":            func(n api.Node) api.Node { return node(api.NAt, "", a, n) },
		"NLen":           func(n api.Node) api.Node { return node(api.NLen, "", n) },
		"NMake":          func(n api.Node) api.Node { return node(api.NMake, "", aT, n) },
		"NCast":          func(n api.Node) api.Node { return node(api.NCast, "", n, aT) },
	}
	l := map[string]api.Node{}
	for name, in := range exprs {
		l[name] = returned(nest(n, times, in))
	}
	return l
}

// TestDeep (R1, R6): trees as deep as may be are asked, printed and compared.
func TestDeep(t *testing.T) {
	right, alike, wrong, other := nested(a), nested(a), nested(nothing), nested(b)
	for name, n := range right {
		s := show.Print(n)
		if !show.Right(n) || !strings.HasPrefix(s, "func f() {\n\treturn ") || !strings.HasSuffix(s, "\n}\n") || len(s) < 1<<17 {
			t.Errorf("5.2: %s: %d bytes", name, len(s))
		}
		if !show.Same(n, alike[name]) || show.Same(n, other[name]) || show.Same(n, wrong[name]) {
			t.Errorf("5.1: Same: %s", name)
		}
		if show.Right(wrong[name]) || show.Print(wrong[name]) != "" {
			t.Errorf("5.1: %s with a wrong part", name)
		}
	}
	const times = 1<<16 - 10
	types := returned(node(api.NNew, "", nest(aT, times, sliceOf)))
	if show.Print(types) != "func f() {\n\treturn new("+strings.Repeat("[]", times)+"T)\n}\n" {
		t.Error("5.2: NSliceOf")
	}
	ifs := body(nest(none, times, func(n api.Node) api.Node { return node(api.NIf, "", a, nothing, n) }).Kids[2])
	if show.Print(ifs) != "func f() {\n\tif a {\n"+strings.Repeat("\t} else if a {\n", times-2)+"\t}\n}\n" {
		t.Error("5.2: NIf")
	}
	blocks := body(nest(nothing, 2000, func(n api.Node) api.Node { return node(api.NBlock, "", n) }))
	if s := show.Print(blocks); !strings.Contains(s, "\n"+strings.Repeat("\t", 2001)+"{\n"+strings.Repeat("\t", 2001)+"}\n") {
		t.Error("5.2: NBlock")
	}
}

// TestEndless (R1): a tree that holds itself is not right, and each call comes to an end.
func TestEndless(t *testing.T) {
	for kind, name := range map[int]string{api.NUnary: "-", api.NBinary: "+", api.NBlock: "", api.NSliceOf: "", api.NIf: "", api.NCall: "f", api.NNone + 1: ""} {
		self := node(kind, name, a, nothing, none)
		switch kind {
		case api.NUnary, api.NBlock, api.NSliceOf, api.NCall:
			self.Kids = self.Kids[:1]
			self.Kids[0] = self
		case api.NBinary:
			self.Kids = self.Kids[:2]
			self.Kids[0], self.Kids[1] = self, self
		default:
			self.Kids[2] = self
		}
		for _, n := range []api.Node{body(self), returned(self), returned(node(api.NNew, "", self)), file(self), self} {
			if show.Right(n) || show.Print(n) != "" {
				t.Errorf("5.1: a node of the kind %d that holds itself", kind)
			}
			show.Same(n, n)
		}
	}
}

// TestUntouched (R2): what is handed in stays as it is, and what lies behind the length of a slice is nothing to an answer.
func TestUntouched(t *testing.T) {
	whole, _, _ := parse.Parse(ordinary)
	spare := withSpare(whole)
	want, wantSpare := show.Print(whole), tellSpare(spare)
	if !show.Right(spare) || show.Print(spare) != want || !show.Same(whole, spare) || !show.Same(spare, whole) {
		t.Error("5.1: slices with something behind their length")
	}
	if tellSpare(spare) != wantSpare || show.Print(spare) != want {
		t.Error("R2: a tree was changed")
	}
}

// withSpare is n with a wrong node behind the length of each of its slices.
func withSpare(n api.Node) api.Node {
	var l []api.Node
	for _, k := range n.Kids {
		l = append(l, withSpare(k))
	}
	n.Kids = append(l, node(99, "spare"))[:len(l)]
	return n
}

// tellSpare is n with its places and with what lies behind the length of its slices.
func tellSpare(n api.Node) string {
	n.Kids = n.Kids[:min(cap(n.Kids), len(n.Kids)+1)]
	s := told(api.Node{Kind: n.Kind, Name: n.Name, N: n.N}) + told(api.Node{Kind: n.Line, N: int64(n.Col)})
	for _, k := range n.Kids {
		s += tellSpare(k)
	}
	return s + "."
}
