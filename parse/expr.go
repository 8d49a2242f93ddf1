package parse

import (
	"turnstone/api"
	"turnstone/token"
)

func (p *parser) expr() api.Node {
	return p.inside(p.loosest)
}

// loosest reads an Expr whose depth is already counted.
func (p *parser) loosest() api.Node {
	return p.binary(1)
}

// binary reads Unaries that are joined by signs which bind at least so tight.
func (p *parser) binary(least int) api.Node {
	left := p.unary()
	for tightness(p.mark()) >= least {
		sign := p.mark()
		n := p.pass(api.NBinary)
		n.Name = sign
		right := p.binary(tightness(sign) + 1)
		n.Kids = []api.Node{left, right}
		left = n
	}
	return left
}

// tightness returns how tight a sign binds that joins two Unaries, and 0 for all that joins none.
func tightness(sign string) int {
	switch sign {
	case "||":
		return 1
	case "&&":
		return 2
	case "==", "!=", "<", "<=", ">", ">=":
		return 3
	case "+", "-":
		return 4
	case "*", "/", "%":
		return 5
	}
	return 0
}

func (p *parser) unary() api.Node {
	sign := p.mark()
	if sign != "-" && sign != "!" {
		return p.post()
	}
	n := p.pass(api.NUnary)
	n.Name = sign
	n.Kids = []api.Node{p.unary()}
	return n
}

func (p *parser) post() api.Node {
	n := p.prime()
	for {
		switch p.mark() {
		case ".":
			n = p.dotted(n)
		case "[":
			n = p.indexed(n)
		default:
			return n
		}
	}
}

// dotted reads what follows x with a `.` between.
func (p *parser) dotted(x api.Node) api.Node {
	n := p.pass(api.NSelect)
	if p.takes("(") {
		n.Kind = api.NCast
		n.Kids = []api.Node{x, p.anyType()}
		p.want(")")
		return n
	}
	n.Name = p.name()
	n.Kids = []api.Node{x}
	if p.mark() == "(" {
		n.Kind = api.NInvoke
		n.Kids = append(n.Kids, p.args()...)
	}
	return n
}

func (p *parser) indexed(x api.Node) api.Node {
	n := p.pass(api.NAt)
	n.Kids = []api.Node{x, p.expr()}
	p.want("]")
	return n
}

func (p *parser) args() []api.Node {
	return p.listed(p.expr)
}

func (p *parser) prime() api.Node {
	switch t := p.next(); t.Kind {
	case token.Number:
		n := p.pass(api.NInt)
		n.N = t.N
		return n
	case token.Text:
		n := p.pass(api.NText)
		n.Name = t.Text
		return n
	case token.Name:
		return p.nameOrCall()
	}
	return p.marked()
}

func (p *parser) nameOrCall() api.Node {
	n := p.begin(api.NName)
	n.Name = p.name()
	if p.mark() == "(" {
		n.Kind = api.NCall
		n.Kids = p.args()
	}
	return n
}

// marked reads a Prime that begins with a Word or a Sign.
func (p *parser) marked() api.Node {
	switch p.mark() {
	case "true":
		return p.pass(api.NTrue)
	case "false":
		return p.pass(api.NFalse)
	case "nil":
		return p.pass(api.NNil)
	case "len":
		return p.built(api.NLen, p.expr)
	case "make":
		return p.built(api.NMake, p.anyType, p.expr)
	case "new":
		return p.built(api.NNew, p.anyType)
	case "input":
		return p.built(api.NInput)
	case "(":
		return p.wrapped()
	}
	p.fail(api.ErrToken)
	return api.Node{}
}

// built reads a call of what the language brings along: its Word, and then these parts between parentheses.
func (p *parser) built(kind int, parts ...rule) api.Node {
	n := p.pass(kind)
	p.want("(")
	for i, read := range parts {
		if i > 0 {
			p.want(",")
		}
		n.Kids = append(n.Kids, read())
	}
	p.want(")")
	return n
}

// wrapped reads an Expr between parentheses, which leave nothing in the tree.
func (p *parser) wrapped() api.Node {
	p.want("(")
	n := p.expr()
	p.want(")")
	return n
}
