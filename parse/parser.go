package parse

import (
	"turnstone/api"
	"turnstone/token"
)

// parser goes over the tokens of a text from left to right; the last of them is an End.
type parser struct {
	tokens []token.Token
	at     int // the next token
	nested int // how many of Stmt, Expr and Type the next token is in
	failed api.Errno
	place  api.Place // of the error, once it failed
}

// rule reads one part of the grammar, and returns its node.
type rule func() api.Node

// next returns the token that comes next.
func (p *parser) next() token.Token {
	return p.tokens[p.at]
}

// mark returns the next token as it is written if it is a Sign, a Word or a Semi. What a Name or a Text says is no mark.
func (p *parser) mark() string {
	switch t := p.next(); t.Kind {
	case token.Sign, token.Word, token.Semi:
		return t.Text
	}
	return ""
}

func (p *parser) atEnd() bool {
	return p.next().Kind == token.End
}

func (p *parser) atBrace() bool {
	return p.mark() == "}"
}

// fail keeps the first error. No token is left behind it but the End, so that all that is under way comes to its end.
func (p *parser) fail(e api.Errno) {
	if p.failed != api.OK {
		return
	}
	t := p.next()
	p.failed, p.place = e, api.Place{Line: t.Line, Col: t.Col}
	p.at = len(p.tokens) - 1
}

// takes passes the next token if it is this mark, and reports whether it is.
func (p *parser) takes(mark string) bool {
	if p.mark() != mark {
		return false
	}
	p.at++
	return true
}

// want passes this mark, which must come next.
func (p *parser) want(mark string) {
	if !p.takes(mark) {
		p.fail(api.ErrToken)
	}
}

// name passes a Name, which must come next, and returns it.
func (p *parser) name() string {
	t := p.next()
	if t.Kind != token.Name {
		p.fail(api.ErrToken)
		return ""
	}
	p.at++
	return t.Text
}

// begin returns a node of this kind at the place of the next token.
func (p *parser) begin(kind int) api.Node {
	t := p.next()
	return api.Node{Kind: kind, Line: t.Line, Col: t.Col}
}

// pass returns a node of this kind at the place of the next token, and passes the token.
func (p *parser) pass(kind int) api.Node {
	n := p.begin(kind)
	p.at++
	return n
}

// inside reads a Stmt, an Expr or a Type, unless it would lie in too many others.
func (p *parser) inside(read rule) api.Node {
	if p.nested == api.MaxNest {
		p.fail(api.ErrDeep)
		return api.Node{}
	}
	p.nested++
	n := read()
	p.nested--
	return n
}

// orNone reads a part that may be omitted: it is if one of the marks comes next, which stand behind the part.
func (p *parser) orNone(read rule, marks ...string) api.Node {
	next := p.mark()
	for _, m := range marks {
		if m == next {
			return api.Node{Kind: api.NNone}
		}
	}
	return read()
}

// lines reads parts that Semis divide, until the list is over.
func (p *parser) lines(read rule, over func() bool) []api.Node {
	var l []api.Node
	p.skipSemis()
	for p.failed == api.OK && !over() {
		l = append(l, read())
		if !over() {
			p.want(";")
		}
		p.skipSemis()
	}
	return l
}

func (p *parser) skipSemis() {
	for p.takes(";") {
	}
}

// braced reads lines between braces.
func (p *parser) braced(read rule) []api.Node {
	p.want("{")
	l := p.lines(read, p.atBrace)
	p.want("}")
	return l
}

// listed reads parts that commas divide, between parentheses.
func (p *parser) listed(read rule) []api.Node {
	var l []api.Node
	p.want("(")
	if p.mark() != ")" {
		l = append(l, read())
		for p.takes(",") {
			l = append(l, read())
		}
	}
	p.want(")")
	return l
}
