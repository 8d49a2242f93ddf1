package check

import (
	"turnstone/api"
	"turnstone/kinds"
)

// expr walks an expression by the rule of its kind, and returns its type.
func (w *walker) expr(n *api.Node) int {
	return w.exprRule(n.Kind)(n)
}

func (w *walker) exprRule(kind int) typing {
	switch kind {
	case api.NName:
		return w.name
	case api.NUnary:
		return w.unary
	case api.NBinary:
		return w.binary
	case api.NCall:
		return w.call
	case api.NSelect:
		return w.selection
	case api.NInvoke:
		return w.invoke
	case api.NAt:
		return w.at
	case api.NLen:
		return w.length
	case api.NMake:
		return w.makeSlice
	case api.NNew:
		return w.newStruct
	case api.NCast:
		return w.cast
	}
	return w.literal
}

// literal returns the type of what has no parts. It refuses what stands for no expression in a tree that no text has.
func (w *walker) literal(n *api.Node) int {
	switch n.Kind {
	case api.NInt, api.NInput:
		return api.Int
	case api.NTrue, api.NFalse:
		return api.Bool
	case api.NText:
		return api.Text
	case api.NNil:
		return api.Nil
	}
	return w.fail(n, api.ErrType)
}

// typed returns the type of n if ok, and fails at n if not.
func (w *walker) typed(n *api.Node, of int, ok bool) int {
	if !ok {
		return w.fail(n, api.ErrType)
	}
	return of
}

func (w *walker) name(n *api.Node) int {
	known := w.body.known
	for i := len(known) - 1; i >= 0; i-- {
		if known[i].name == n.Name {
			return known[i].of
		}
	}
	return w.fail(n, api.ErrName)
}

func (w *walker) unary(n *api.Node) int {
	x := w.expr(kid(n, 0))
	return w.typed(n, x, n.Name == "-" && x == api.Int || n.Name == "!" && x == api.Bool)
}

func (w *walker) binary(n *api.Node) int {
	left, right := w.expr(kid(n, 0)), w.expr(kid(n, 1))
	ordered := left == right && (left == api.Int || left == api.Text)
	switch n.Name {
	case "+":
		return w.typed(n, left, ordered)
	case "-", "*", "/", "%":
		return w.typed(n, api.Int, left == api.Int && right == api.Int)
	case "<", "<=", ">", ">=":
		return w.typed(n, api.Bool, ordered)
	case "&&", "||":
		return w.typed(n, api.Bool, left == api.Bool && right == api.Bool)
	case "==", "!=":
		return w.typed(n, api.Bool, w.comparable(left, right))
	}
	return w.fail(n, api.ErrType)
}

// comparable reports whether == may stand between two types. Of different ones, one must fit the other: nil, or a Struct that has a Face.
func (w *walker) comparable(left, right int) bool {
	if left != right {
		return kinds.Fits(w.info.Types, left, right) || kinds.Fits(w.info.Types, right, left)
	}
	switch w.kind(left) {
	case api.Int, api.Bool, api.Text, api.Struct, api.Face:
		return true
	}
	return false
}

func (w *walker) call(n *api.Node) int {
	given := w.types(n.Kids, w.expr)
	i, ok := w.function(n.Name)
	if !ok {
		return w.fail(n, api.ErrName)
	}
	f := w.info.Funcs[i]
	w.arguments(n, n.Kids, given, f.Params)
	return f.Result
}

// arguments compares the types that are given to a call with those that it takes.
func (w *walker) arguments(n *api.Node, args []api.Node, given, params []int) {
	if len(given) != len(params) {
		w.fail(n, api.ErrCount)
		return
	}
	for i, of := range given {
		w.fits(&args[i], of, params[i])
	}
}

func (w *walker) selection(n *api.Node) int {
	x := w.expr(kid(n, 0))
	if w.kind(x) != api.Struct {
		return w.fail(n, api.ErrType)
	}
	i, ok := kinds.Field(w.info.Types, x, n.Name)
	if !ok {
		return w.fail(n, api.ErrName)
	}
	return w.info.Types[x].Fields[i].Type
}

func (w *walker) invoke(n *api.Node) int {
	x, args := w.expr(kid(n, 0)), from(n, 1)
	given := w.types(args, w.expr)
	if kind := w.kind(x); kind != api.Struct && kind != api.Face {
		return w.fail(n, api.ErrType)
	}
	i, ok := kinds.Method(w.info.Types, x, n.Name)
	if !ok {
		return w.fail(n, api.ErrName)
	}
	m := w.info.Types[x].Methods[i]
	w.arguments(n, args, given, m.Params)
	return m.Result
}

func (w *walker) at(n *api.Node) int {
	of, _ := w.element(n)
	return of
}

// element returns the type of an NAt, and whether it is an element of a Slice.
func (w *walker) element(n *api.Node) (int, bool) {
	x, index := w.expr(kid(n, 0)), w.expr(kid(n, 1))
	if w.kind(x) == api.Slice {
		return w.typed(n, w.info.Types[x].Elem, index == api.Int), true
	}
	return w.typed(n, api.Int, x == api.Text && index == api.Int), false
}

func (w *walker) length(n *api.Node) int {
	x := w.expr(kid(n, 0))
	return w.typed(n, api.Int, x == api.Text || w.kind(x) == api.Slice)
}

func (w *walker) makeSlice(n *api.Node) int {
	of, size := w.written(kid(n, 0)), w.expr(kid(n, 1))
	return w.typed(n, of, w.kind(of) == api.Slice && size == api.Int)
}

func (w *walker) newStruct(n *api.Node) int {
	of := w.written(kid(n, 0))
	return w.typed(n, of, w.kind(of) == api.Struct)
}

func (w *walker) cast(n *api.Node) int {
	x, of := w.expr(kid(n, 0)), w.written(kid(n, 1))
	return w.typed(n, of, kinds.Has(w.info.Types, of, x))
}
