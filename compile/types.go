package compile

import (
	"turnstone/api"
	"turnstone/kinds"
)

// typeOf returns the type of an expression that is not written yet, or whose type does not hang on those of its parts.
func (w *writer) typeOf(n *api.Node) int {
	switch n.Kind {
	case api.NInt, api.NLen, api.NInput:
		return api.Int
	case api.NTrue, api.NFalse:
		return api.Bool
	case api.NText:
		return api.Text
	case api.NName:
		return w.variable(n.Name).of
	case api.NUnary:
		return w.typeOf(kid(n, 0))
	case api.NBinary:
		return joined(n.Name, w.typeOf(kid(n, 0)))
	case api.NCall:
		return w.info.Funcs[w.funcNamed(n.Name)].Result
	case api.NSelect:
		_, of := w.field(w.typeOf(kid(n, 0)), n.Name)
		return of
	case api.NInvoke:
		return w.method(w.typeOf(kid(n, 0)), n.Name).Result
	case api.NAt:
		return w.elem(w.typeOf(kid(n, 0)))
	case api.NMake, api.NNew:
		return w.written(kid(n, 0))
	case api.NCast:
		return w.written(kid(n, 1))
	}
	return api.Void
}

// joined returns the type of what a sign makes of two parts, the left one of which has the type of.
func joined(sign string, of int) int {
	switch sign {
	case "+", "-", "*", "/", "%":
		return of
	}
	return api.Bool
}

// elem returns the type of what an index chooses from a string or a Slice.
func (w *writer) elem(x int) int {
	if x == api.Text {
		return api.Int
	}
	return w.info.Types[x].Elem
}

// written returns the type that is written at n.
func (w *writer) written(n *api.Node) int {
	elem := api.Void
	if n.Kind == api.NSliceOf {
		elem = w.written(kid(n, 0))
	}
	for t, known := range w.info.Types {
		// A Slice has no name, and any other type no Elem.
		if known.Name == n.Name && known.Elem == elem {
			return t
		}
	}
	return api.Void
}

// variable returns the one that a name stands for.
func (w *writer) variable(name string) variable {
	for i := len(w.known) - 1; i >= 0; i-- {
		if w.known[i].name == name {
			return w.known[i]
		}
	}
	return variable{}
}

// funcNamed returns the number of a function without a receiver.
func (w *writer) funcNamed(name string) int {
	for i, f := range w.info.Funcs {
		if f.Recv == api.Void && f.Name == name {
			return i
		}
	}
	return 0
}

// field returns the index and the type of a field of the Struct x.
func (w *writer) field(x int, name string) (int, int) {
	i, ok := kinds.Field(w.info.Types, x, name)
	if !ok {
		return 0, api.Void
	}
	return i, w.info.Types[x].Fields[i].Type
}

// method returns a method of the Struct or the Face x.
func (w *writer) method(x int, name string) api.Method {
	i, ok := kinds.Method(w.info.Types, x, name)
	if !ok {
		return api.Method{}
	}
	return w.info.Types[x].Methods[i]
}
