package show

import (
	"strconv"

	"turnstone/api"
)

func (w *writer) expr(n *api.Node) {
	switch n.Kind {
	case api.NInt:
		w.number(n)
	case api.NTrue:
		w.trueExpr()
	case api.NFalse:
		w.falseExpr()
	case api.NText:
		w.quoted(n)
	case api.NNil:
		w.nilExpr()
	case api.NName:
		w.name(n)
	case api.NUnary:
		w.unary(n)
	case api.NBinary:
		w.binary(n)
	case api.NCall:
		w.call(n)
	case api.NSelect:
		w.selected(n)
	case api.NInvoke:
		w.invoke(n)
	case api.NAt:
		w.at(n)
	case api.NLen:
		w.length(n)
	case api.NMake:
		w.makeExpr(n)
	case api.NNew:
		w.newExpr(n)
	case api.NInput:
		w.input()
	case api.NCast:
		w.cast(n)
	}
}

func (w *writer) number(n *api.Node) {
	w.put(strconv.FormatInt(n.N, 10))
}

func (w *writer) trueExpr() {
	w.put("true")
}

func (w *writer) falseExpr() {
	w.put("false")
}

func (w *writer) nilExpr() {
	w.put("nil")
}

func (w *writer) quoted(n *api.Node) {
	w.put(`"`)
	for i := range len(n.Name) {
		w.quotedByte(n.Name[i])
	}
	w.put(`"`)
}

func (w *writer) quotedByte(b byte) {
	switch b {
	case '\n':
		w.put(`\n`)
	case '\t':
		w.put(`\t`)
	case '"', '\\':
		w.put(`\`)
		w.WriteByte(b)
	default:
		w.WriteByte(b)
	}
}

func (w *writer) name(n *api.Node) {
	w.put(n.Name)
}

func (w *writer) unary(n *api.Node) {
	w.put("(", n.Name)
	w.expr(&n.Kids[0])
	w.put(")")
}

func (w *writer) binary(n *api.Node) {
	w.put("(")
	w.joined(n, " "+n.Name+" ")
	w.put(")")
}

func (w *writer) call(n *api.Node) {
	w.put(n.Name)
	w.listed(n.Kids, w.expr)
}

func (w *writer) selected(n *api.Node) {
	w.expr(&n.Kids[0])
	w.put(".", n.Name)
}

func (w *writer) invoke(n *api.Node) {
	w.selected(n)
	w.listed(n.Kids[1:], w.expr)
}

func (w *writer) at(n *api.Node) {
	w.expr(&n.Kids[0])
	w.put("[")
	w.expr(&n.Kids[1])
	w.put("]")
}

func (w *writer) length(n *api.Node) {
	w.put("len")
	w.listed(n.Kids, w.expr)
}

func (w *writer) makeExpr(n *api.Node) {
	w.put("make(")
	w.anyType(&n.Kids[0])
	w.put(", ")
	w.expr(&n.Kids[1])
	w.put(")")
}

func (w *writer) newExpr(n *api.Node) {
	w.put("new")
	w.listed(n.Kids, w.anyType)
}

func (w *writer) input() {
	w.put("input()")
}

func (w *writer) cast(n *api.Node) {
	w.expr(&n.Kids[0])
	w.put(".(")
	w.anyType(&n.Kids[1])
	w.put(")")
}
