package show

import (
	"turnstone/api"
)

func (j *judge) block(n *api.Node) bool {
	return n.Kind == api.NBlock && plain(n) && j.each(n.Kids, j.stmt)
}

func (j *judge) stmt(n *api.Node) bool {
	if n.Kind == api.NVar {
		return named(n) && j.row(n.Kids, j.anyType, j.maybeExpr)
	}
	return plain(n) && j.nameless(n)
}

// nameless is the rule of the Stmts that have nothing but their Kids.
func (j *judge) nameless(n *api.Node) bool {
	switch n.Kind {
	case api.NBlock:
		return j.block(n)
	case api.NDefine, api.NAssign:
		return j.row(n.Kids, j.expr, j.expr)
	case api.NIf:
		return j.row(n.Kids, j.expr, j.block, j.elsePart)
	case api.NFor:
		return j.row(n.Kids, j.maybeExpr, j.block)
	case api.NBreak, api.NContinue:
		return leaf(n)
	case api.NReturn:
		return j.row(n.Kids, j.maybeExpr)
	case api.NExpr, api.NPrint:
		return j.row(n.Kids, j.expr)
	}
	return false
}

func (j *judge) elsePart(n *api.Node) bool {
	return none(n) || (n.Kind == api.NIf || n.Kind == api.NBlock) && j.stmt(n)
}

func (j *judge) maybeExpr(n *api.Node) bool {
	return none(n) || j.expr(n)
}

// expr is the rule of an Expr and of all that it is made of: between parentheses each of them may stand in each other.
func (j *judge) expr(n *api.Node) bool {
	switch n.Kind {
	case api.NInt:
		return n.Name == "" && n.N >= 0 && leaf(n)
	case api.NText:
		return isText(n.Name) && n.N == 0 && leaf(n)
	case api.NUnary:
		return isPrefix(n.Name) && n.N == 0 && j.row(n.Kids, j.expr)
	case api.NBinary:
		return isJoint(n.Name) && n.N == 0 && j.row(n.Kids, j.expr, j.expr)
	case api.NName:
		return named(n) && leaf(n)
	case api.NCall:
		return named(n) && j.each(n.Kids, j.expr)
	case api.NSelect:
		return named(n) && j.row(n.Kids, j.expr)
	case api.NInvoke:
		return named(n) && j.led(n.Kids, j.expr, j.expr)
	}
	return plain(n) && j.wordExpr(n)
}

// wordExpr is the rule of what is written with Words and signs that its Kind tells.
func (j *judge) wordExpr(n *api.Node) bool {
	switch n.Kind {
	case api.NTrue, api.NFalse, api.NNil, api.NInput:
		return leaf(n)
	case api.NAt:
		return j.row(n.Kids, j.expr, j.expr)
	case api.NLen:
		return j.row(n.Kids, j.expr)
	case api.NMake:
		return j.row(n.Kids, j.anyType, j.expr)
	case api.NNew:
		return j.row(n.Kids, j.anyType)
	case api.NCast:
		return j.row(n.Kids, j.expr, j.anyType)
	}
	return false
}

// isText reports whether there is a Text that denotes s.
func isText(s string) bool {
	if len(s) > api.MaxLen {
		return false
	}
	for i := range len(s) {
		if b := s[i]; (b < ' ' || b > '~') && b != '\n' && b != '\t' {
			return false
		}
	}
	return true
}

func isPrefix(s string) bool {
	return s == "-" || s == "!"
}

// isJoint reports whether s is a sign that joins two Exprs.
func isJoint(s string) bool {
	switch s {
	case "||", "&&", "==", "!=", "<", "<=", ">", ">=", "+", "-", "*", "/", "%":
		return true
	}
	return false
}
