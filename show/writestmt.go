package show

import (
	"turnstone/api"
)

func (w *writer) stmt(n *api.Node) {
	switch n.Kind {
	case api.NBlock:
		w.block(n)
	case api.NVar:
		w.varStmt(n)
	case api.NDefine:
		w.define(n)
	case api.NAssign:
		w.assign(n)
	case api.NIf:
		w.ifStmt(n)
	case api.NFor:
		w.forStmt(n)
	case api.NBreak:
		w.breakStmt()
	case api.NContinue:
		w.continueStmt()
	case api.NReturn:
		w.returnStmt(n)
	case api.NExpr:
		w.exprStmt(n)
	case api.NPrint:
		w.printStmt(n)
	}
}

func (w *writer) block(n *api.Node) {
	w.braced(n.Kids, w.stmt)
}

func (w *writer) varStmt(n *api.Node) {
	w.put("var ", n.Name, " ")
	w.anyType(&n.Kids[0])
	w.maybe(" = ", &n.Kids[1], w.expr)
}

func (w *writer) define(n *api.Node) {
	w.joined(n, " := ")
}

func (w *writer) assign(n *api.Node) {
	w.joined(n, " = ")
}

// joined writes the two Exprs of n with a sign between them.
func (w *writer) joined(n *api.Node, sign string) {
	w.expr(&n.Kids[0])
	w.put(sign)
	w.expr(&n.Kids[1])
}

func (w *writer) ifStmt(n *api.Node) {
	w.put("if ")
	w.expr(&n.Kids[0])
	w.put(" ")
	w.block(&n.Kids[1])
	w.maybe(" else ", &n.Kids[2], w.stmt)
}

func (w *writer) forStmt(n *api.Node) {
	w.put("for")
	w.maybe(" ", &n.Kids[0], w.expr)
	w.put(" ")
	w.block(&n.Kids[1])
}

func (w *writer) breakStmt() {
	w.put("break")
}

func (w *writer) continueStmt() {
	w.put("continue")
}

func (w *writer) returnStmt(n *api.Node) {
	w.put("return")
	w.maybe(" ", &n.Kids[0], w.expr)
}

func (w *writer) exprStmt(n *api.Node) {
	w.expr(&n.Kids[0])
}

func (w *writer) printStmt(n *api.Node) {
	w.put("print")
	w.listed(n.Kids, w.expr)
}
