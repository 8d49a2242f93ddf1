package check

import (
	"turnstone/api"
	"turnstone/kinds"
)

// kind returns the kind of a type.
func (w *walker) kind(t int) int {
	return w.info.Types[t].Kind
}

// result returns the type of a result, which may be omitted.
func (w *walker) result(n *api.Node) int {
	if n.Kind == api.NNone {
		return api.Void
	}
	return w.written(n)
}

// written returns the type that is written at n.
func (w *walker) written(n *api.Node) int {
	if n.Kind == api.NSliceOf {
		return w.sliceOf(n)
	}
	return w.typeName(n)
}

func (w *walker) typeName(n *api.Node) int {
	for _, t := range [...]int{api.Int, api.Bool, api.Text} {
		if w.info.Types[t].Name == n.Name {
			return t
		}
	}
	t, ok := w.declared(n.Name)
	w.need(ok, n, api.ErrName)
	return t
}

// sliceOf returns the type of an NSliceOf. Where it occurs first, it becomes one of the program's types.
func (w *walker) sliceOf(n *api.Node) int {
	elem := w.written(kid(n, 0))
	if w.failed != api.OK {
		return api.Void
	}
	for t, known := range w.info.Types {
		if known.Kind == api.Slice && known.Elem == elem {
			return t
		}
	}
	if len(w.info.Types) == api.MaxTypes {
		return w.fail(n, api.ErrCount)
	}
	w.info.Types = append(w.info.Types, api.Type{Kind: api.Slice, Elem: elem})
	return len(w.info.Types) - 1
}

// fits fails at n, which has the type of, unless it may stand where the type to is required.
func (w *walker) fits(n *api.Node, of, to int) {
	w.need(kinds.Fits(w.info.Types, of, to), n, api.ErrType)
}
