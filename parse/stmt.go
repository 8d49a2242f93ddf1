package parse

import (
	"turnstone/api"
)

func (p *parser) block() api.Node {
	n := p.begin(api.NBlock)
	n.Kids = p.braced(p.stmt)
	return n
}

func (p *parser) stmt() api.Node {
	return p.inside(p.choose())
}

// choose returns the rule of the Stmt that begins at the next token.
func (p *parser) choose() rule {
	switch p.mark() {
	case "{":
		return p.block
	case "var":
		return p.varStmt
	case "if":
		return p.ifStmt
	case "for":
		return p.forStmt
	case "break":
		return p.breakStmt
	case "continue":
		return p.continueStmt
	case "return":
		return p.returnStmt
	case "print":
		return p.printStmt
	}
	return p.simple
}

func (p *parser) varStmt() api.Node {
	n := p.pass(api.NVar)
	n.Name = p.name()
	of, value := p.anyType(), api.Node{Kind: api.NNone}
	if p.takes("=") {
		value = p.expr()
	}
	n.Kids = []api.Node{of, value}
	return n
}

func (p *parser) ifStmt() api.Node {
	n := p.pass(api.NIf)
	asked, then := p.expr(), p.block()
	n.Kids = []api.Node{asked, then, p.elsePart()}
	return n
}

// elsePart reads an If that follows an else without counting it as a Stmt: it is a part of the first one.
func (p *parser) elsePart() api.Node {
	if !p.takes("else") {
		return api.Node{Kind: api.NNone}
	}
	if p.mark() == "if" {
		return p.ifStmt()
	}
	return p.block()
}

func (p *parser) forStmt() api.Node {
	n := p.pass(api.NFor)
	asked := p.orNone(p.expr, "{")
	n.Kids = []api.Node{asked, p.block()}
	return n
}

func (p *parser) breakStmt() api.Node {
	return p.pass(api.NBreak)
}

func (p *parser) continueStmt() api.Node {
	return p.pass(api.NContinue)
}

func (p *parser) returnStmt() api.Node {
	n := p.pass(api.NReturn)
	n.Kids = []api.Node{p.orNone(p.expr, ";", "}")}
	return n
}

func (p *parser) printStmt() api.Node {
	n := p.pass(api.NPrint)
	p.want("(")
	n.Kids = []api.Node{p.expr()}
	p.want(")")
	return n
}

// simple reads an Expr that is a statement, or what is set or declared by one.
func (p *parser) simple() api.Node {
	n := p.begin(api.NExpr)
	left := p.expr()
	switch p.mark() {
	case ":=":
		n = p.pass(api.NDefine)
	case "=":
		n = p.pass(api.NAssign)
	default:
		n.Kids = []api.Node{left}
		return n
	}
	n.Kids = []api.Node{left, p.expr()}
	return n
}
