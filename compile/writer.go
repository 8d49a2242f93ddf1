package compile

import (
	"turnstone/api"
	"turnstone/check"
	"turnstone/code"
)

// The parts of an NFunc.
const (
	receiverPart = iota
	resultPart
	bodyPart
	firstParam
)

// writer goes over the functions of a tree that Check accepts, and writes their code.
type writer struct {
	info  check.Info
	nums  pool[int64]
	texts pool[string]
	funcs []api.Func // those that are written
	body
}

// body is what belongs to the function that is being written.
type body struct {
	assembler
	sig    check.Sig
	locals []int      // types
	known  []variable // the innermost last
	loops  []loop     // the innermost last
}

type variable struct {
	name      string
	local, of int
}

// loop holds the labels of an NFor: where it begins anew, and what follows it.
type loop struct {
	again, end int
}

// pool keeps each value once, in the order in which they are needed first.
type pool[T comparable] struct {
	values []T
	places map[T]int
}

// place returns the index of v.
func (p *pool[T]) place(v T) int {
	if i, ok := p.places[v]; ok {
		return i
	}
	if p.places == nil {
		p.places = map[T]int{}
	}
	p.places[v] = len(p.values)
	p.values = append(p.values, v)
	return p.places[v]
}

func (w *writer) program() api.Prog {
	return api.Prog{Types: w.info.Types, Funcs: w.funcs, Main: w.info.Main, Texts: w.texts.values, Nums: w.nums.values}
}

// funcDecl writes the NFunc that comes next.
func (w *writer) funcDecl(n *api.Node) {
	w.body = body{sig: w.info.Funcs[len(w.funcs)]}
	for i, p := range paramsOf(n) {
		w.declare(p.Name, w.sig.Params[i])
	}
	w.block(kid(n, bodyPart))
	w.end()
	w.resolve()
	w.funcs = append(w.funcs, api.Func{
		Name:   w.fullName(),
		Params: w.sig.Params,
		Result: w.sig.Result,
		Locals: w.locals,
		Code:   w.code,
	})
}

// end writes what stands behind a body.
func (w *writer) end() {
	if w.sig.Result == api.Void {
		w.putA(code.Ret, 0)
		return
	}
	// This is never reached, but code must not run over its end.
	w.putA(code.Jump, len(w.code))
}

// fullName returns the name of the function, which has that of its receiver ahead if it is a method.
func (w *writer) fullName() string {
	if w.sig.Recv == api.Void {
		return w.sig.Name
	}
	return w.info.Types[w.sig.Recv].Name + "." + w.sig.Name
}

// declare makes a new local known, and returns it.
func (w *writer) declare(name string, of int) int {
	local := len(w.locals)
	w.locals = append(w.locals, of)
	w.known = append(w.known, variable{name, local, of})
	return local
}

// paramsOf returns the NParams of an NFunc, its receiver first.
func paramsOf(n *api.Node) []api.Node {
	var l []api.Node
	if receiver := kid(n, receiverPart); receiver.Kind != api.NNone {
		l = append(l, *receiver)
	}
	return append(l, from(n, firstParam)...)
}

// kid returns a part of n, or an empty node if there is none, as in a tree that no text has.
func kid(n *api.Node, i int) *api.Node {
	if i >= len(n.Kids) {
		return &api.Node{}
	}
	return &n.Kids[i]
}

// from returns the parts of n from the i-th on.
func from(n *api.Node, i int) []api.Node {
	return n.Kids[min(i, len(n.Kids)):]
}
