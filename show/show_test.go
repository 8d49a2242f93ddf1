package show_test

import (
	"fmt"
	"strings"
	"testing"

	"turnstone/api"
	"turnstone/parse"
	"turnstone/show"
)

// node is a node with these Kids and without a place.
func node(kind int, name string, kids ...api.Node) api.Node {
	return api.Node{Kind: kind, Name: name, Kids: kids}
}

var (
	none    = node(api.NNone, "")
	anInt   = node(api.NTypeName, "int")
	aT      = node(api.NTypeName, "T")
	slice   = node(api.NSliceOf, "", aT)
	a       = node(api.NName, "a")
	b       = node(api.NName, "b")
	c       = node(api.NName, "c")
	nothing = node(api.NBlock, "")
	broken  = node(api.NBlock, "", node(api.NBreak, ""))
)

func number(n int64) api.Node {
	return api.Node{Kind: api.NInt, N: n}
}

func file(decls ...api.Node) api.Node {
	return node(api.NFile, "", decls...)
}

// body is a File with a function that has these lines.
func body(stmts ...api.Node) api.Node {
	return file(node(api.NFunc, "f", none, none, node(api.NBlock, "", stmts...)))
}

// returned is a File with a function that returns n.
func returned(n api.Node) api.Node {
	return body(node(api.NReturn, "", n))
}

// nest puts n into itself so many times.
func nest(n api.Node, times int, in func(n api.Node) api.Node) api.Node {
	for range times {
		n = in(n)
	}
	return n
}

// told is a tree without its places. Two trees that differ in anything else are told in different ways.
func told(n api.Node) string {
	s := &strings.Builder{}
	tell(s, n)
	return s.String()
}

func tell(s *strings.Builder, n api.Node) {
	fmt.Fprintf(s, "%d %q %d(", n.Kind, n.Name, n.N)
	for _, k := range n.Kids {
		tell(s, k)
	}
	s.WriteString(")")
}

// short is the beginning of a text, for messages.
func short(s string) string {
	return s[:min(len(s), 200)]
}

// wantPrinted fails the test if n is not right or not printed as this text, or if the text does not have the tree n.
func wantPrinted(t *testing.T, n api.Node, want string) {
	t.Helper()
	if !show.Right(n) {
		t.Errorf("5.1: not right: %s", short(told(n)))
	}
	got := show.Print(n)
	if got != want {
		t.Errorf("5.2: %q, not %q", short(got), short(want))
	}
	wantBack(t, n, got)
}

// wantBack fails the test if the text s does not have the tree n, or is not printed as it stands.
func wantBack(t *testing.T, n api.Node, s string) {
	t.Helper()
	back, place, e := parse.Parse(s)
	if e != api.OK || !show.Same(back, n) || told(back) != told(n) {
		t.Errorf("5.3: %q: error %d at %v, and the tree %s, not %s", short(s), e, place, short(told(back)), short(told(n)))
	} else if !show.Right(back) || show.Print(back) != s {
		t.Errorf("5.3: %q is printed as %q", short(s), short(show.Print(back)))
	}
}

// wantWrong fails the test if n is right, or has a text.
func wantWrong(t *testing.T, n api.Node) {
	t.Helper()
	if show.Right(n) {
		t.Errorf("5.1: right: %s", short(told(n)))
	}
	if s := show.Print(n); s != "" {
		t.Errorf("5.2: %q is printed of %s", short(s), short(told(n)))
	}
}

// TestPrintDecls (5.2): declarations, each at the beginning of a line.
func TestPrintDecls(t *testing.T) {
	aFunc := node(api.NFunc, "f", none, none, nothing)
	param := func(name string, of api.Node) api.Node { return node(api.NParam, name, of) }
	for want, n := range map[string]api.Node{
		"":                                     file(),
		"type P struct {\n}\n":                 file(node(api.NStruct, "P")),
		"type P struct {\n\tx int\n}\n":        file(node(api.NStruct, "P", node(api.NField, "x", anInt))),
		"type P struct {\n\tx []T\n\ty T\n}\n": file(node(api.NStruct, "P", node(api.NField, "x", slice), node(api.NField, "y", aT))),
		"type P interface {\n}\n":              file(node(api.NFace, "P")),
		"type P interface {\n\tm()\n}\n":       file(node(api.NFace, "P", node(api.NMethod, "m", none))),
		"type P interface {\n\tm(int, T) int\n\tk()\n\tl(T)\n\tn() [][]T\n}\n": file(node(api.NFace, "P", node(api.NMethod, "m", anInt, anInt, aT), node(api.NMethod, "k", none),
			node(api.NMethod, "l", none, aT), node(api.NMethod, "n", node(api.NSliceOf, "", slice)))),
		"func f() {\n}\n":                                file(aFunc),
		"func f() T {\n}\n":                              file(node(api.NFunc, "f", none, aT, nothing)),
		"func f(a int) {\n}\n":                           file(node(api.NFunc, "f", none, none, nothing, param("a", anInt))),
		"func (r T) f() {\n}\n":                          file(node(api.NFunc, "f", param("r", aT), none, nothing)),
		"func (r T) f(a int, b []T) int {\n\tbreak\n}\n": file(node(api.NFunc, "f", param("r", aT), anInt, broken, param("a", anInt), param("b", slice))),
		"func f(a bool) string {\n}\n":                   file(node(api.NFunc, "f", none, node(api.NTypeName, "string"), nothing, param("a", node(api.NTypeName, "bool")))),
		"type P struct {\n}\nfunc f() {\n}\ntype Q interface {\n}\nfunc f() {\n}\n": file(node(api.NStruct, "P"), aFunc, node(api.NFace, "Q"), aFunc),
	} {
		wantPrinted(t, n, want)
	}
}

// TestPrintStmts (5.2): statements, each on a line of its own.
func TestPrintStmts(t *testing.T) {
	one := func(kind int, kids ...api.Node) []api.Node { return []api.Node{node(kind, "", kids...)} }
	anIf := node(api.NIf, "", b, broken, none)
	for want, stmts := range map[string][]api.Node{
		"{\n}":          one(api.NBlock),
		"{\n\tbreak\n}": {broken},
		"{\n\t{\n\t\t{\n\t\t\tbreak\n\t\t}\n\t}\n\tcontinue\n}\nbreak": {node(api.NBlock, "", node(api.NBlock, "", broken), node(api.NContinue, "")), node(api.NBreak, "")},
		"var x int":                             {node(api.NVar, "x", anInt, none)},
		"var x []T = a":                         {node(api.NVar, "x", slice, a)},
		"a := b":                                one(api.NDefine, a, b),
		"a = b":                                 one(api.NAssign, a, b),
		"a.b[c] = 5":                            one(api.NAssign, node(api.NAt, "", node(api.NSelect, "b", a), c), number(5)),
		"if a {\n}":                             one(api.NIf, a, nothing, none),
		"if a {\n\tbreak\n}":                    one(api.NIf, a, broken, none),
		"if a {\n} else {\n}":                   one(api.NIf, a, nothing, nothing),
		"if a {\n\tbreak\n} else {\n\tbreak\n}": one(api.NIf, a, broken, broken),
		"if a {\n} else if b {\n\tbreak\n}":     one(api.NIf, a, nothing, anIf),
		"if a {\n\tif b {\n\t\tbreak\n\t}\n} else {\n\tif b {\n\t\tbreak\n\t}\n}":    one(api.NIf, a, node(api.NBlock, "", anIf), node(api.NBlock, "", anIf)),
		"if a {\n} else if b {\n\tbreak\n} else if c {\n} else {\n\tbreak\n}\nbreak": {node(api.NIf, "", a, nothing, node(api.NIf, "", b, broken, node(api.NIf, "", c, nothing, broken))), node(api.NBreak, "")},
		"for {\n}":                            one(api.NFor, none, nothing),
		"for a {\n}":                          one(api.NFor, a, nothing),
		"for {\n\tbreak\n}":                   one(api.NFor, none, broken),
		"for a {\n\tfor {\n\t\tbreak\n\t}\n}": one(api.NFor, a, node(api.NBlock, "", node(api.NFor, "", none, broken))),
		"break":                               one(api.NBreak),
		"continue":                            one(api.NContinue),
		"return":                              one(api.NReturn, none),
		"return a":                            one(api.NReturn, a),
		"a":                                   one(api.NExpr, a),
		"f()":                                 one(api.NExpr, node(api.NCall, "f")),
		"print(a)":                            one(api.NPrint, a),
		"a\n(a + b)\n(-c)":                    {node(api.NExpr, "", a), node(api.NExpr, "", node(api.NBinary, "+", a, b)), node(api.NExpr, "", node(api.NUnary, "-", c))},
		"print((a + b))":                      one(api.NPrint, node(api.NBinary, "+", a, b)),
		"if (!a) {\n}":                        one(api.NIf, node(api.NUnary, "!", a), nothing, none),
		"for (a < b) {\n}":                    one(api.NFor, node(api.NBinary, "<", a, b), nothing),
		"var x int = (-a)":                    {node(api.NVar, "x", anInt, node(api.NUnary, "-", a))},
		"(-a) := (b == c)":                    one(api.NDefine, node(api.NUnary, "-", a), node(api.NBinary, "==", b, c)),
		"true = nil":                          one(api.NAssign, node(api.NTrue, ""), node(api.NNil, "")),
		"return\nreturn":                      {node(api.NReturn, "", none), node(api.NReturn, "", none)},
		"return\na":                           {node(api.NReturn, "", none), node(api.NExpr, "", a)},
		"var x T\na = b":                      {node(api.NVar, "x", aT, none), node(api.NAssign, "", a, b)},
	} {
		lines := strings.ReplaceAll("\n"+want, "\n", "\n\t")
		wantPrinted(t, body(stmts...), "func f() {"+lines+"\n}\n")
	}
	wantPrinted(t, body(), "func f() {\n}\n")
}

// TestPrintExprs (5.2): expressions, with parentheses where they belong and nowhere else.
func TestPrintExprs(t *testing.T) {
	sum := node(api.NBinary, "+", a, b)
	minus := node(api.NUnary, "-", a)
	for want, n := range map[string]api.Node{
		"0":                   number(0),
		"42":                  number(42),
		"9223372036854775807": number(1<<63 - 1),
		"true":                node(api.NTrue, ""),
		"false":               node(api.NFalse, ""),
		"nil":                 node(api.NNil, ""),
		"input()":             node(api.NInput, ""),
		"_a1":                 node(api.NName, "_a1"),
		"(-a)":                minus,
		"(!a)":                node(api.NUnary, "!", a),
		"(-(-a))":             node(api.NUnary, "-", minus),
		"(!(a + b))":          node(api.NUnary, "!", sum),
		"(-1)":                node(api.NUnary, "-", number(1)),
		"((a + b) + c)":       node(api.NBinary, "+", sum, c),
		"(c + (a + b))":       node(api.NBinary, "+", c, sum),
		"((a + b) * (-a))":    node(api.NBinary, "*", sum, minus),
		"(c || (a + b))":      node(api.NBinary, "||", c, sum),
		"a.x":                 node(api.NSelect, "x", a),
		"a.x.y":               node(api.NSelect, "y", node(api.NSelect, "x", a)),
		"(a + b).x":           node(api.NSelect, "x", sum),
		"5.x":                 node(api.NSelect, "x", number(5)),
		"a.m()":               node(api.NInvoke, "m", a),
		"a.m(b)":              node(api.NInvoke, "m", a, b),
		"(-a).m((a + b), c)":  node(api.NInvoke, "m", minus, sum, c),
		"a.m(b).n()":          node(api.NInvoke, "n", node(api.NInvoke, "m", a, b)),
		"a.(T)":               node(api.NCast, "", a, aT),
		"(a + b).([]T)":       node(api.NCast, "", sum, slice),
		"a.(int).(T)":         node(api.NCast, "", node(api.NCast, "", a, anInt), aT),
		"a[b]":                node(api.NAt, "", a, b),
		"a[b][c]":             node(api.NAt, "", node(api.NAt, "", a, b), c),
		"a[b[c]]":             node(api.NAt, "", a, node(api.NAt, "", b, c)),
		"(-a)[(a + b)]":       node(api.NAt, "", minus, sum),
		"(-a[b])":             node(api.NUnary, "-", node(api.NAt, "", a, b)),
		"f()":                 node(api.NCall, "f"),
		"f(a)":                node(api.NCall, "f", a),
		"f(a, (a + b), g(c))": node(api.NCall, "f", a, sum, node(api.NCall, "g", c)),
		"f()[a].x":            node(api.NSelect, "x", node(api.NAt, "", node(api.NCall, "f"), a)),
		"len(a)":              node(api.NLen, "", a),
		"len((a + b))":        node(api.NLen, "", sum),
		"make([]T, a)":        node(api.NMake, "", slice, a),
		"make(T, (-a))":       node(api.NMake, "", aT, minus),
		"new(T)":              node(api.NNew, "", aT),
		"new([]T)":            node(api.NNew, "", slice),
		`""`:                  node(api.NText, ""),
		`"a"`:                 node(api.NText, "a"),
		`"\n\t\"\\"`:          node(api.NText, "\n\t\"\\"),
		`"\\n"`:               node(api.NText, `\n`),
		`" ~'/;}"`:            node(api.NText, " ~'/;}"),
		`"a".x`:               node(api.NSelect, "x", node(api.NText, "a")),
	} {
		wantPrinted(t, returned(n), "func f() {\n\treturn "+want+"\n}\n")
	}
	for _, sign := range strings.Fields("|| && == != < <= > >= + - * / %") {
		wantPrinted(t, returned(node(api.NBinary, sign, a, b)), "func f() {\n\treturn (a "+sign+" b)\n}\n")
	}
}

// TestPrintTexts (5.2): every byte that a Text may denote.
func TestPrintTexts(t *testing.T) {
	all, written := "", ""
	for k := ' '; k <= '~'; k++ {
		all += string(k)
		written += strings.NewReplacer(`"`, `\"`, `\`, `\\`).Replace(string(k))
	}
	wantPrinted(t, returned(node(api.NText, "\n"+all+"\t")), "func f() {\n\treturn \"\\n"+written+"\\t\"\n}\n")
	long := strings.Repeat("\n", api.MaxLen)
	wantPrinted(t, returned(node(api.NText, long)), "func f() {\n\treturn \""+strings.Repeat(`\n`, api.MaxLen)+"\"\n}\n")
}

// TestExample (5.2): the example of the document.
func TestExample(t *testing.T) {
	n, _, _ := parse.Parse("func f(a int) int { return a+1 }")
	wantPrinted(t, n, "func f(a int) int {\n\treturn (a + 1)\n}\n")
}
