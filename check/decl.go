package check

import (
	"turnstone/api"
	"turnstone/kinds"
)

// mostDeclared is how many types a program may declare.
const mostDeclared = 40

// The parts of an NFunc.
const (
	receiverPart = iota
	resultPart
	bodyPart
	firstParam
)

// file walks the whole tree, round by round.
func (w *walker) file(n *api.Node) {
	types, funcs := ofKind(n.Kids, api.NStruct, api.NFace), ofKind(n.Kids, api.NFunc)
	w.each(types, w.typeDecl)
	w.each(types, w.members)
	w.each(funcs, w.head)
	w.findMain()
	w.each(funcs, w.funcBody)
}

// typeDecl declares the name of an NStruct or NFace.
func (w *walker) typeDecl(n *api.Node) {
	_, twice := w.declared(n.Name)
	w.need(!twice, n, api.ErrTwice)
	w.need(len(w.info.Types) < len(kinds.Base())+mostDeclared, n, api.ErrCount)
	made := api.Type{Kind: api.Struct, Name: n.Name}
	if n.Kind == api.NFace {
		made.Kind = api.Face
	}
	w.info.Types = append(w.info.Types, made)
}

// declared returns the number of a declared type.
func (w *walker) declared(name string) (int, bool) {
	for t := len(kinds.Base()); t < len(w.info.Types); t++ {
		own := w.info.Types[t]
		if own.Kind != api.Slice && own.Name == name {
			return t, true
		}
	}
	return 0, false
}

// members walks what an NStruct or NFace consists of.
func (w *walker) members(n *api.Node) {
	w.own, _ = w.declared(n.Name)
	if n.Kind == api.NFace {
		w.each(n.Kids, w.method)
		return
	}
	w.each(n.Kids, w.field)
}

func (w *walker) field(n *api.Node) {
	_, twice := kinds.Field(w.info.Types, w.own, n.Name)
	w.need(!twice, n, api.ErrTwice)
	w.need(len(w.info.Types[w.own].Fields) < api.MaxFields, n, api.ErrCount)
	made := api.Field{Name: n.Name, Type: w.written(kid(n, 0))}
	own := &w.info.Types[w.own]
	own.Fields = append(own.Fields, made)
}

// method walks what an interface asks for.
func (w *walker) method(n *api.Node) {
	_, twice := kinds.Method(w.info.Types, w.own, n.Name)
	w.need(!twice, n, api.ErrTwice)
	w.need(len(w.info.Types[w.own].Methods) < api.MaxFields, n, api.ErrCount)
	params := from(n, 1)
	w.need(len(params) <= api.MaxParams, n, api.ErrCount)
	made := api.Method{Name: n.Name, Result: w.result(kid(n, 0)), Func: -1}
	made.Params = w.types(params, w.written)
	w.addMethod(w.own, made)
}

func (w *walker) addMethod(t int, made api.Method) {
	own := &w.info.Types[t]
	own.Methods = append(own.Methods, made)
}

// head walks what an NFunc declares, without its body.
func (w *walker) head(n *api.Node) {
	made := Sig{Name: n.Name, Recv: w.receiver(n)}
	params := paramsOf(n)
	w.need(len(w.info.Funcs) < api.MaxFuncs, n, api.ErrCount)
	w.need(len(params) <= api.MaxParams, n, api.ErrCount)
	w.needDiffering(params)
	made.Result = w.result(kid(n, resultPart))
	made.Params = w.types(params, w.param)
	if w.failed != api.OK {
		return
	}
	if made.Recv != api.Void {
		called := append([]int(nil), made.Params[1:]...)
		w.addMethod(made.Recv, api.Method{Name: n.Name, Params: called, Result: made.Result, Func: len(w.info.Funcs)})
	}
	w.info.Funcs = append(w.info.Funcs, made)
}

// receiver looks whether the name of an NFunc is free, and returns the type of its receiver, or Void if it has none.
func (w *walker) receiver(n *api.Node) int {
	receiver := kid(n, receiverPart)
	if receiver.Kind == api.NNone {
		_, twice := w.function(n.Name)
		w.need(!twice, n, api.ErrTwice)
		return api.Void
	}
	own := kid(receiver, 0)
	t, ok := w.declared(own.Name)
	if !ok || w.kind(t) != api.Struct {
		return w.fail(own, api.ErrName)
	}
	_, isField := kinds.Field(w.info.Types, t, n.Name)
	_, isMethod := kinds.Method(w.info.Types, t, n.Name)
	w.need(!isField && !isMethod, n, api.ErrTwice)
	w.need(len(w.info.Types[t].Methods) < api.MaxFields, n, api.ErrCount)
	return t
}

// function returns the number of a function without a receiver.
func (w *walker) function(name string) (int, bool) {
	for i, f := range w.info.Funcs {
		if f.Recv == api.Void && f.Name == name {
			return i, true
		}
	}
	return 0, false
}

// paramsOf returns the NParams of an NFunc, its receiver first.
func paramsOf(n *api.Node) []api.Node {
	var l []api.Node
	if receiver := kid(n, receiverPart); receiver.Kind != api.NNone {
		l = append(l, *receiver)
	}
	return append(l, from(n, firstParam)...)
}

// needDiffering fails at the first NParam that has the name of an earlier one.
func (w *walker) needDiffering(params []api.Node) {
	for i := 0; i < len(params) && w.failed == api.OK; i++ {
		for _, earlier := range params[:i] {
			w.need(params[i].Name != earlier.Name, &params[i], api.ErrTwice)
		}
	}
}

func (w *walker) param(n *api.Node) int {
	return w.written(kid(n, 0))
}

// findMain fails where a text begins if the program has nothing to begin with.
func (w *walker) findMain() {
	i, ok := w.function("main")
	if !ok || len(w.info.Funcs[i].Params) > 0 || w.info.Funcs[i].Result != api.Void {
		w.fail(&api.Node{Line: 1, Col: 1}, api.ErrName)
	}
	w.info.Main = i
}
