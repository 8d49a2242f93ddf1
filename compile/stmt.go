package compile

import (
	"turnstone/api"
	"turnstone/code"
)

func (w *writer) stmt(n *api.Node) {
	switch n.Kind {
	case api.NBlock:
		w.block(n)
	case api.NVar:
		w.varStmt(n)
	case api.NDefine:
		w.defineStmt(n)
	case api.NAssign:
		w.assignStmt(n)
	case api.NIf:
		w.ifStmt(n)
	case api.NFor:
		w.forStmt(n)
	case api.NBreak:
		w.putJump(code.Jump, w.innermost().end)
	case api.NContinue:
		w.putJump(code.Jump, w.innermost().again)
	case api.NReturn:
		w.returnStmt(n)
	case api.NExpr:
		w.exprStmt(kid(n, 0))
	case api.NPrint:
		w.printStmt(kid(n, 0))
	}
}

// block writes statements. What they declare is not known behind them, but its locals stay.
func (w *writer) block(n *api.Node) {
	known := len(w.known)
	for i := range n.Kids {
		w.stmt(&n.Kids[i])
	}
	w.known = w.known[:known]
}

func (w *writer) varStmt(n *api.Node) {
	of, value := w.written(kid(n, 0)), kid(n, 1)
	if value.Kind == api.NNone {
		w.zero(of)
	} else {
		w.value(value, of)
	}
	w.putA(code.Store, w.declare(n.Name, of))
}

// zero writes the value that a variable has if none is given.
func (w *writer) zero(of int) {
	switch of {
	case api.Int:
		w.putA(code.Num, w.nums.place(0))
	case api.Bool:
		w.putA(code.Bit, 0)
	default:
		w.putA(code.Null, of)
	}
}

func (w *writer) defineStmt(n *api.Node) {
	of := w.expr(kid(n, 1))
	w.putA(code.Store, w.declare(kid(n, 0).Name, of))
}

func (w *writer) assignStmt(n *api.Node) {
	left, right := kid(n, 0), kid(n, 1)
	switch left.Kind {
	case api.NName:
		v := w.variable(left.Name)
		w.value(right, v.of)
		w.putA(code.Store, v.local)
	case api.NSelect:
		i, of := w.field(w.expr(kid(left, 0)), left.Name)
		w.value(right, of)
		w.putA(code.SetField, i)
	case api.NAt:
		x := w.expr(kid(left, 0))
		w.expr(kid(left, 1))
		w.value(right, w.elem(x))
		w.put(code.SetAt)
	}
}

func (w *writer) ifStmt(n *api.Node) {
	other, elsePart := w.newLabel(), kid(n, 2)
	w.expr(kid(n, 0))
	w.putJump(code.JumpNo, other)
	w.stmt(kid(n, 1))
	if elsePart.Kind == api.NNone {
		w.set(other)
		return
	}
	end := w.newLabel()
	w.putJump(code.Jump, end)
	w.set(other)
	w.stmt(elsePart)
	w.set(end)
}

func (w *writer) forStmt(n *api.Node) {
	around := loop{w.newLabel(), w.newLabel()}
	w.set(around.again)
	if asked := kid(n, 0); asked.Kind != api.NNone {
		w.expr(asked)
		w.putJump(code.JumpNo, around.end)
	}
	w.loops = append(w.loops, around)
	w.stmt(kid(n, 1))
	w.loops = w.loops[:len(w.loops)-1]
	w.putJump(code.Jump, around.again)
	w.set(around.end)
}

// innermost returns the loop that the next statement is in.
func (w *writer) innermost() loop {
	return w.loops[len(w.loops)-1]
}

func (w *writer) returnStmt(n *api.Node) {
	value := kid(n, 0)
	if value.Kind == api.NNone {
		w.putA(code.Ret, 0)
		return
	}
	w.value(value, w.sig.Result)
	w.putA(code.Ret, 1)
}

func (w *writer) exprStmt(called *api.Node) {
	if w.expr(called) != api.Void {
		w.put(code.Pop)
	}
}

func (w *writer) printStmt(value *api.Node) {
	w.putA(code.Print, w.expr(value))
}
