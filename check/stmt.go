package check

import (
	"turnstone/api"
)

// body is what is known within the body of a function.
type body struct {
	sig   Sig
	known []variable // the innermost last
	block int        // the index in known at which the variables of the innermost block begin
	count int        // how many variables were declared, among them those that are not known any more
	loops int        // how many NFors the next statement is in
}

type variable struct {
	name string
	of   int
}

// funcBody walks the body of the NFunc that comes next.
func (w *walker) funcBody(n *api.Node) {
	w.body = body{sig: w.info.Funcs[w.bodies]}
	w.bodies++
	for i, p := range paramsOf(n) {
		w.add(p.Name, w.body.sig.Params[i])
	}
	block := kid(n, bodyPart)
	w.blockStmt(block)
	w.need(w.body.sig.Result == api.Void || ends(block), n, api.ErrEnd)
}

func (w *walker) add(name string, of int) {
	w.body.known = append(w.body.known, variable{name, of})
	w.body.count++
}

// declare makes a variable known that n declares.
func (w *walker) declare(n *api.Node, of int) {
	for _, v := range w.body.known[w.body.block:] {
		w.need(v.name != n.Name, n, api.ErrTwice)
	}
	w.need(w.body.count < api.MaxLocals, n, api.ErrCount)
	w.add(n.Name, of)
}

// stmt walks a statement by the rule of its kind.
func (w *walker) stmt(n *api.Node) {
	w.stmtRule(n.Kind)(n)
}

func (w *walker) stmtRule(kind int) visit {
	switch kind {
	case api.NBlock:
		return w.blockStmt
	case api.NVar:
		return w.varStmt
	case api.NDefine:
		return w.defineStmt
	case api.NAssign:
		return w.assignStmt
	case api.NIf:
		return w.ifStmt
	case api.NFor:
		return w.forStmt
	case api.NBreak, api.NContinue:
		return w.loopStmt
	case api.NReturn:
		return w.returnStmt
	case api.NExpr:
		return w.exprStmt
	case api.NPrint:
		return w.printStmt
	}
	return w.noStmt
}

// noStmt refuses what stands for no statement in a tree that no text has.
func (w *walker) noStmt(n *api.Node) {
	w.fail(n, api.ErrPlace)
}

func (w *walker) blockStmt(n *api.Node) {
	around, known := w.body.block, len(w.body.known)
	w.body.block = known
	w.each(n.Kids, w.stmt)
	w.body.block, w.body.known = around, w.body.known[:known]
}

func (w *walker) varStmt(n *api.Node) {
	of, value := w.written(kid(n, 0)), kid(n, 1)
	if value.Kind != api.NNone {
		w.fits(value, w.expr(value), of)
	}
	w.declare(n, of)
}

func (w *walker) defineStmt(n *api.Node) {
	left, right := kid(n, 0), kid(n, 1)
	w.need(left.Kind == api.NName, n, api.ErrPlace)
	of := w.expr(right)
	w.need(of != api.Void && of != api.Nil, right, api.ErrType)
	w.declare(left, of)
}

func (w *walker) assignStmt(n *api.Node) {
	left, right := kid(n, 0), kid(n, 1)
	of, ok := w.target(left)
	w.need(ok, n, api.ErrPlace)
	w.fits(right, w.expr(right), of)
}

// target returns the type of an expression on the left, and whether it is a place for a value.
func (w *walker) target(n *api.Node) (int, bool) {
	if n.Kind == api.NAt {
		return w.element(n)
	}
	return w.expr(n), n.Kind == api.NName || n.Kind == api.NSelect
}

func (w *walker) ifStmt(n *api.Node) {
	w.condition(kid(n, 0))
	w.each(from(n, 1), w.branch)
}

// branch walks what an NIf chooses from: a block, another NIf, or what stands for no else.
func (w *walker) branch(n *api.Node) {
	if n.Kind != api.NNone {
		w.stmt(n)
	}
}

func (w *walker) condition(n *api.Node) {
	w.need(w.expr(n) == api.Bool, n, api.ErrType)
}

func (w *walker) forStmt(n *api.Node) {
	if asked := kid(n, 0); asked.Kind != api.NNone {
		w.condition(asked)
	}
	w.body.loops++
	w.each(from(n, 1), w.stmt)
	w.body.loops--
}

func (w *walker) loopStmt(n *api.Node) {
	w.need(w.body.loops > 0, n, api.ErrPlace)
}

func (w *walker) returnStmt(n *api.Node) {
	value, result := kid(n, 0), w.body.sig.Result
	switch {
	case value.Kind != api.NNone:
		// No type fits Void, so that a value is wrong in a function without a result.
		w.fits(value, w.expr(value), result)
	case result != api.Void:
		w.fail(n, api.ErrType)
	}
}

func (w *walker) exprStmt(n *api.Node) {
	called := kid(n, 0)
	w.need(called.Kind == api.NCall || called.Kind == api.NInvoke, n, api.ErrPlace)
	w.expr(called)
}

func (w *walker) printStmt(n *api.Node) {
	value := kid(n, 0)
	of := w.expr(value)
	w.need(of == api.Int || of == api.Bool || of == api.Text, value, api.ErrType)
}
