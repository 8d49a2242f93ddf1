package parse

import (
	"turnstone/api"
	"turnstone/token"
)

func (p *parser) file() api.Node {
	n := p.begin(api.NFile)
	n.Kids = p.lines(p.decl, p.atEnd)
	return n
}

func (p *parser) decl() api.Node {
	switch p.mark() {
	case "type":
		return p.typeDecl()
	case "func":
		return p.funcDecl()
	}
	p.fail(api.ErrToken)
	return api.Node{}
}

func (p *parser) typeDecl() api.Node {
	n := p.pass(api.NStruct)
	n.Name = p.name()
	if p.takes("interface") {
		n.Kind = api.NFace
		n.Kids = p.braced(p.method)
		return n
	}
	p.want("struct")
	n.Kids = p.braced(p.field)
	return n
}

func (p *parser) field() api.Node {
	return p.typedName(api.NField)
}

func (p *parser) param() api.Node {
	return p.typedName(api.NParam)
}

// typedName reads a name and its type as a node of this kind.
func (p *parser) typedName(kind int) api.Node {
	n := p.begin(kind)
	n.Name = p.name()
	n.Kids = []api.Node{p.anyType()}
	return n
}

func (p *parser) method() api.Node {
	n := p.begin(api.NMethod)
	n.Name = p.name()
	params := p.listed(p.anyType)
	result := p.orNone(p.anyType, ";", "}")
	n.Kids = append([]api.Node{result}, params...)
	return n
}

func (p *parser) funcDecl() api.Node {
	n := p.pass(api.NFunc)
	receiver := api.Node{Kind: api.NNone}
	if p.mark() == "(" {
		receiver = p.receiver()
	}
	n.Name = p.name()
	params := p.listed(p.param)
	result := p.orNone(p.anyType, "{")
	body := p.block()
	n.Kids = append([]api.Node{receiver, result, body}, params...)
	return n
}

func (p *parser) receiver() api.Node {
	p.want("(")
	n := p.begin(api.NParam)
	n.Name = p.name()
	of := p.begin(api.NTypeName)
	of.Name = p.name()
	n.Kids = []api.Node{of}
	p.want(")")
	return n
}

func (p *parser) anyType() api.Node {
	return p.inside(p.typeOnly)
}

// typeOnly reads a Type whose depth is already counted.
func (p *parser) typeOnly() api.Node {
	t := p.next()
	switch p.mark() {
	case "[":
		n := p.pass(api.NSliceOf)
		p.want("]")
		n.Kids = []api.Node{p.anyType()}
		return n
	case "int", "bool", "string":
	default:
		if t.Kind != token.Name {
			p.fail(api.ErrToken)
			return api.Node{}
		}
	}
	n := p.pass(api.NTypeName)
	n.Name = t.Text
	return n
}
