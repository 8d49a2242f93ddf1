package show

import (
	"turnstone/api"
	"turnstone/token"
)

// judge goes over a tree by the rules of the grammar.
type judge struct {
	nested int // how many parts the next one is in
}

// rule reports whether a node may stand where the grammar asks for this part.
type rule func(n *api.Node) bool

// part asks a rule about a node. It says no to what is too deep, so that a tree that holds itself comes to an end.
func (j *judge) part(n *api.Node, is rule) bool {
	if j.nested == deepest {
		return false
	}
	j.nested++
	ok := is(n)
	j.nested--
	return ok
}

// each reports whether one rule holds for all of l.
func (j *judge) each(l []api.Node, is rule) bool {
	for i := range l {
		if !j.part(&l[i], is) {
			return false
		}
	}
	return true
}

// row reports whether l has one part for each of the rules, in their order.
func (j *judge) row(l []api.Node, rules ...rule) bool {
	if len(l) != len(rules) {
		return false
	}
	for i, is := range rules {
		if !j.part(&l[i], is) {
			return false
		}
	}
	return true
}

// led reports whether l begins with one part for each of the first rules, and goes on with any number of parts by the rule rest.
func (j *judge) led(l []api.Node, rest rule, first ...rule) bool {
	n := len(first)
	return len(l) >= n && j.row(l[:n], first...) && j.each(l[n:], rest)
}

// plain reports whether n has neither a Name nor a number.
func plain(n *api.Node) bool {
	return n.Name == "" && n.N == 0
}

// named reports whether n has a Name that a text can have, and no number.
func named(n *api.Node) bool {
	return token.IsName(n.Name) && n.N == 0
}

// leaf reports whether n has no Kids.
func leaf(n *api.Node) bool {
	return len(n.Kids) == 0
}

// none reports whether n stands for what is omitted.
func none(n *api.Node) bool {
	return n.Kind == api.NNone && plain(n) && leaf(n)
}

func (j *judge) file(n *api.Node) bool {
	return n.Kind == api.NFile && plain(n) && j.each(n.Kids, j.decl)
}

func (j *judge) decl(n *api.Node) bool {
	switch n.Kind {
	case api.NStruct:
		return named(n) && j.each(n.Kids, j.field)
	case api.NFace:
		return named(n) && j.each(n.Kids, j.method)
	case api.NFunc:
		return named(n) && j.led(n.Kids, j.param, j.receiver, j.result, j.block)
	}
	return false
}

func (j *judge) field(n *api.Node) bool {
	return n.Kind == api.NField && named(n) && j.row(n.Kids, j.anyType)
}

func (j *judge) method(n *api.Node) bool {
	return n.Kind == api.NMethod && named(n) && j.led(n.Kids, j.anyType, j.result)
}

func (j *judge) param(n *api.Node) bool {
	return n.Kind == api.NParam && named(n) && j.row(n.Kids, j.anyType)
}

func (j *judge) receiver(n *api.Node) bool {
	return none(n) || n.Kind == api.NParam && named(n) && j.row(n.Kids, j.ownType)
}

func (j *judge) result(n *api.Node) bool {
	return none(n) || j.anyType(n)
}

// ownType is the rule of a receiver's type, which no text writes as a Word or a slice.
func (j *judge) ownType(n *api.Node) bool {
	return n.Kind == api.NTypeName && named(n) && leaf(n)
}

func (j *judge) anyType(n *api.Node) bool {
	switch n.Kind {
	case api.NTypeName:
		return (isTypeWord(n.Name) || token.IsName(n.Name)) && n.N == 0 && leaf(n)
	case api.NSliceOf:
		return plain(n) && j.row(n.Kids, j.anyType)
	}
	return false
}

func isTypeWord(s string) bool {
	return s == "int" || s == "bool" || s == "string"
}
