package show_test

import (
	"strconv"
	"strings"

	"turnstone/api"
)

// speller writes a text of any tree. If the tree is right, the text is one of those that Parse reads as this tree; if it is not, there is no such text.
type speller struct {
	text  strings.Builder
	loose func(n int) int // numbers below n by which the text is laid out, or nil for the plainest text
}

// spelled is a text of n: the plainest one, or one that is laid out by these numbers.
func spelled(n api.Node, loose func(n int) int) string {
	s := &speller{loose: loose}
	s.file(n)
	return s.text.String()
}

// chance reports whether something is done that happens one time of n, and never in the plainest text.
func (s *speller) chance(n int) bool {
	return s.loose != nil && s.loose(n) == 0
}

// put writes these tokens.
func (s *speller) put(tokens ...string) {
	for _, t := range tokens {
		s.text.WriteString(t)
		s.text.WriteString(" ")
		if strings.Contains("( { [ , + * && || == := if for type", t) && s.chance(5) {
			s.text.WriteString("// a\n\t")
		}
	}
}

// end writes what ends a line.
func (s *speller) end() {
	if s.chance(3) {
		s.text.WriteString("// b\n")
		return
	}
	s.put(";")
	for s.chance(3) {
		s.put(";")
	}
}

// kid is a Kid of n, or what has no text if there is none.
func kid(n api.Node, i int) api.Node {
	if i < len(n.Kids) {
		return n.Kids[i]
	}
	return api.Node{}
}

// from is what n has from its Kid i on.
func from(n api.Node, i int) []api.Node {
	return n.Kids[min(i, len(n.Kids)):]
}

func (s *speller) lines(l []api.Node, write func(n api.Node)) {
	for s.chance(4) {
		s.put(";")
	}
	for i, n := range l {
		write(n)
		if i < len(l)-1 || !s.chance(2) {
			s.end()
		}
	}
}

func (s *speller) braced(l []api.Node, write func(n api.Node)) {
	s.put("{")
	s.lines(l, write)
	s.put("}")
}

func (s *speller) listed(l []api.Node, write func(n api.Node)) {
	s.put("(")
	for i, n := range l {
		if i > 0 {
			s.put(",")
		}
		write(n)
	}
	s.put(")")
}

// maybe writes what may be omitted, with these tokens before it.
func (s *speller) maybe(n api.Node, write func(n api.Node), before ...string) {
	if n.Kind != api.NNone {
		s.put(before...)
		write(n)
	}
}

func (s *speller) file(n api.Node) {
	for _, d := range n.Kids {
		s.decl(d)
		s.end()
	}
}

func (s *speller) decl(n api.Node) {
	switch n.Kind {
	case api.NStruct:
		s.put("type", n.Name, "struct")
		s.braced(n.Kids, s.typed)
	case api.NFace:
		s.put("type", n.Name, "interface")
		s.braced(n.Kids, s.method)
	default:
		s.put("func")
		s.maybe(kid(n, 0), s.receiver)
		s.put(n.Name)
		s.listed(from(n, 3), s.typed)
		s.maybe(kid(n, 1), s.aType)
		s.block(kid(n, 2))
	}
}

func (s *speller) typed(n api.Node) {
	s.put(n.Name)
	s.aType(kid(n, 0))
}

func (s *speller) method(n api.Node) {
	s.put(n.Name)
	s.listed(from(n, 1), s.aType)
	s.maybe(kid(n, 0), s.aType)
}

func (s *speller) receiver(n api.Node) {
	s.put("(")
	s.typed(n)
	s.put(")")
}

func (s *speller) aType(n api.Node) {
	if n.Kind == api.NSliceOf {
		s.put("[", "]")
		s.aType(kid(n, 0))
		return
	}
	s.put(n.Name)
}

func (s *speller) block(n api.Node) {
	s.braced(n.Kids, s.stmt)
}

func (s *speller) stmt(n api.Node) {
	switch n.Kind {
	case api.NBlock:
		s.block(n)
	case api.NVar:
		s.put("var", n.Name)
		s.aType(kid(n, 0))
		s.maybe(kid(n, 1), s.expr, "=")
	case api.NIf:
		s.put("if")
		s.expr(kid(n, 0))
		s.block(kid(n, 1))
		s.maybe(kid(n, 2), s.stmt, "else")
	case api.NFor:
		s.put("for")
		s.maybe(kid(n, 0), s.expr)
		s.block(kid(n, 1))
	case api.NBreak:
		s.put("break")
	case api.NContinue:
		s.put("continue")
	case api.NReturn:
		s.put("return")
		s.maybe(kid(n, 0), s.expr)
	case api.NPrint:
		s.put("print", "(")
		s.expr(kid(n, 0))
		s.put(")")
	default:
		s.simple(n)
	}
}

func (s *speller) simple(n api.Node) {
	s.expr(kid(n, 0))
	switch n.Kind {
	case api.NDefine:
		s.put(":=")
		s.expr(kid(n, 1))
	case api.NAssign:
		s.put("=")
		s.expr(kid(n, 1))
	}
}

// expr writes an Expr, now and then in parentheses.
func (s *speller) expr(n api.Node) {
	if s.chance(6) {
		s.inner(n)
		return
	}
	s.bare(n)
}

// inner writes an Expr that is a part of another one.
func (s *speller) inner(n api.Node) {
	s.put("(")
	s.bare(n)
	s.put(")")
}

func (s *speller) bare(n api.Node) {
	switch n.Kind {
	case api.NInt:
		s.put(strconv.FormatInt(n.N, 10))
	case api.NText:
		s.put(`"` + strings.NewReplacer(`\`, `\\`, `"`, `\"`, "\n", `\n`, "\t", `\t`).Replace(n.Name) + `"`)
	case api.NTrue:
		s.put("true")
	case api.NFalse:
		s.put("false")
	case api.NNil:
		s.put("nil")
	case api.NName:
		s.put(n.Name)
	case api.NCall:
		s.put(n.Name)
		s.listed(n.Kids, s.expr)
	case api.NUnary:
		s.put(n.Name)
		s.inner(kid(n, 0))
	case api.NBinary:
		s.inner(kid(n, 0))
		s.put(n.Name)
		s.inner(kid(n, 1))
	default:
		s.post(n)
	}
}

func (s *speller) post(n api.Node) {
	switch n.Kind {
	case api.NSelect:
		s.inner(kid(n, 0))
		s.put(".", n.Name)
	case api.NInvoke:
		s.inner(kid(n, 0))
		s.put(".", n.Name)
		s.listed(from(n, 1), s.expr)
	case api.NCast:
		s.inner(kid(n, 0))
		s.put(".", "(")
		s.aType(kid(n, 1))
		s.put(")")
	case api.NAt:
		s.inner(kid(n, 0))
		s.put("[")
		s.expr(kid(n, 1))
		s.put("]")
	default:
		s.built(n)
	}
}

func (s *speller) built(n api.Node) {
	switch n.Kind {
	case api.NLen:
		s.put("len", "(")
		s.expr(kid(n, 0))
	case api.NMake:
		s.put("make", "(")
		s.aType(kid(n, 0))
		s.put(",")
		s.expr(kid(n, 1))
	case api.NNew:
		s.put("new", "(")
		s.aType(kid(n, 0))
	case api.NInput:
		s.put("input", "(")
	default:
		s.put("?")
	}
	s.put(")")
}
