package compile

import (
	"turnstone/api"
	"turnstone/code"
)

// value writes an expression where the type want is required, which a nil takes over.
func (w *writer) value(n *api.Node, want int) {
	if n.Kind == api.NNil {
		w.putA(code.Null, want)
		return
	}
	w.expr(n)
}

// expr writes any expression but a nil, and returns its type.
func (w *writer) expr(n *api.Node) int {
	switch n.Kind {
	case api.NUnary:
		return w.unary(n)
	case api.NBinary:
		return w.binary(n)
	case api.NInvoke:
		return w.invoke(n)
	case api.NSelect:
		return w.selection(n)
	case api.NAt:
		return w.at(n)
	}
	w.plain(n)
	return w.typeOf(n)
}

// plain writes an expression whose type does not hang on those of its parts.
func (w *writer) plain(n *api.Node) {
	switch n.Kind {
	case api.NInt:
		w.putA(code.Num, w.nums.place(n.N))
	case api.NTrue:
		w.putA(code.Bit, 1)
	case api.NFalse:
		w.putA(code.Bit, 0)
	case api.NText:
		w.putA(code.Lit, w.texts.place(n.Name))
	case api.NName:
		w.putA(code.Load, w.variable(n.Name).local)
	case api.NInput:
		w.put(code.Input)
	case api.NCall:
		w.call(n)
	case api.NLen:
		w.expr(kid(n, 0))
		w.put(code.Len)
	case api.NMake:
		w.expr(kid(n, 1))
		w.putA(code.Make, w.typeOf(n))
	case api.NNew:
		w.putA(code.New, w.typeOf(n))
	case api.NCast:
		w.expr(kid(n, 0))
		w.putA(code.Cast, w.typeOf(n))
	}
}

func (w *writer) unary(n *api.Node) int {
	of := w.expr(kid(n, 0))
	if n.Name == "!" {
		w.put(code.Not)
	} else {
		w.put(code.Neg)
	}
	return of
}

func (w *writer) binary(n *api.Node) int {
	left, right := kid(n, 0), kid(n, 1)
	switch n.Name {
	case "&&":
		w.and(left, right)
		return api.Bool
	case "||":
		w.or(left, right)
		return api.Bool
	case ">", ">=":
		// Strings have no op for these, which are < and <= of the parts in the other order.
		if w.typeOf(left) == api.Text {
			left, right = right, left
		}
	}
	of := w.both(left, right)
	if of == api.Text {
		w.put(textOp(n.Name))
	} else {
		w.put(wordOp(n.Name))
	}
	return joined(n.Name, of)
}

// both writes the parts of a sign, and returns the type of the left one, which a nil has from the other part.
func (w *writer) both(left, right *api.Node) int {
	if left.Kind == api.NNil {
		w.value(left, w.typeOf(right))
		return w.expr(right)
	}
	of := w.expr(left)
	w.value(right, of)
	return of
}

// wordOp returns the op of a sign between any parts but strings.
func wordOp(sign string) int {
	switch sign {
	case "+":
		return code.Add
	case "-":
		return code.Sub
	case "*":
		return code.Mul
	case "/":
		return code.Div
	case "%":
		return code.Rem
	case "==":
		return code.Eq
	case "!=":
		return code.Ne
	case "<":
		return code.Lt
	case "<=":
		return code.Le
	case ">":
		return code.Gt
	}
	return code.Ge
}

// textOp returns the op of a sign between strings.
func textOp(sign string) int {
	switch sign {
	case "+":
		return code.Cat
	case "==":
		return code.TextEq
	case "!=":
		return code.TextNe
	case "<", ">":
		return code.TextLt
	}
	return code.TextLe
}

// and writes `&&`: its right part is not evaluated if the left one is false.
func (w *writer) and(left, right *api.Node) {
	no, end := w.newLabel(), w.newLabel()
	w.expr(left)
	w.putJump(code.JumpNo, no)
	w.expr(right)
	w.putJump(code.Jump, end)
	w.set(no)
	w.putA(code.Bit, 0)
	w.set(end)
}

// or writes `||`: its right part is not evaluated if the left one is true.
func (w *writer) or(left, right *api.Node) {
	no, end := w.newLabel(), w.newLabel()
	w.expr(left)
	w.putJump(code.JumpNo, no)
	w.putA(code.Bit, 1)
	w.putJump(code.Jump, end)
	w.set(no)
	w.expr(right)
	w.set(end)
}

func (w *writer) call(n *api.Node) {
	f := w.funcNamed(n.Name)
	params := w.info.Funcs[f].Params
	w.arguments(n.Kids, params)
	w.putAB(code.Call, f, len(params))
}

// invoke writes a Call of a struct's method, which is known, or an Invoke by the name of an interface's.
func (w *writer) invoke(n *api.Node) int {
	x := w.expr(kid(n, 0))
	m := w.method(x, n.Name)
	words := 1 + len(m.Params)
	w.arguments(from(n, 1), m.Params)
	if w.info.Types[x].Kind == api.Struct {
		w.putAB(code.Call, m.Func, words)
	} else {
		w.putAB(code.Invoke, w.texts.place(n.Name), words)
	}
	return m.Result
}

// arguments writes what is given to a call, which takes these types.
func (w *writer) arguments(l []api.Node, params []int) {
	for i := range min(len(l), len(params)) {
		w.value(&l[i], params[i])
	}
}

func (w *writer) selection(n *api.Node) int {
	i, of := w.field(w.expr(kid(n, 0)), n.Name)
	w.putA(code.Field, i)
	return of
}

func (w *writer) at(n *api.Node) int {
	x := w.expr(kid(n, 0))
	w.expr(kid(n, 1))
	if x == api.Text {
		w.put(code.TextAt)
	} else {
		w.put(code.At)
	}
	return w.elem(x)
}
