package verify

import (
	"turnstone/api"
	"turnstone/code"
	"turnstone/kinds"
)

// accepts reports whether the words that an instruction takes have types that it may take.
func (w *walk) accepts(in api.Instr, taken []int) bool {
	switch in.Op {
	case code.Add, code.Sub, code.Mul, code.Div, code.Rem, code.Neg, code.Lt, code.Le, code.Gt, code.Ge, code.Make:
		return allAre(taken, api.Int)
	case code.Not, code.JumpNo:
		return allAre(taken, api.Bool)
	case code.Cat, code.TextEq, code.TextNe, code.TextLt, code.TextLe:
		return allAre(taken, api.Text)
	case code.Print:
		return allAre(taken, in.A)
	case code.Eq, code.Ne:
		return w.mayCompare(taken[0], taken[1])
	case code.TextAt:
		return taken[0] == api.Text && taken[1] == api.Int
	case code.Len:
		return taken[0] == api.Text || isKind(w.p.Types, taken[0], api.Slice)
	case code.Store:
		return w.fit(taken, w.f.Locals[in.A])
	case code.Call:
		return w.fit(taken, w.p.Funcs[in.A].Params...)
	case code.Ret:
		return w.acceptsRet(in, taken)
	}
	return w.acceptsObject(in, taken)
}

// acceptsObject is accepts for the instructions that take an object of a declared type or a slice; all that is left takes anything.
func (w *walk) acceptsObject(in api.Instr, taken []int) bool {
	switch in.Op {
	case code.Field:
		return w.hasField(taken[0], in.A)
	case code.SetField:
		return w.hasField(taken[0], in.A) && w.fit(taken[1:], w.p.Types[taken[0]].Fields[in.A].Type)
	case code.At:
		return w.indexes(taken)
	case code.SetAt:
		return w.indexes(taken) && w.fit(taken[2:], w.p.Types[taken[0]].Elem)
	case code.Cast:
		return kinds.Has(w.p.Types, in.A, taken[0])
	case code.Invoke:
		m, ok := w.method(in, taken[0])
		return ok && w.fit(taken[1:], m.Params...)
	}
	return true
}

func allAre(l []int, t int) bool {
	for _, own := range l {
		if own != t {
			return false
		}
	}
	return true
}

// mayCompare reports whether words of two types may be compared as words.
func (w *walk) mayCompare(a, b int) bool {
	if a == b {
		return a != api.Text
	}
	return kinds.Has(w.p.Types, a, b) || kinds.Has(w.p.Types, b, a)
}

// fit reports whether there are as many words as types, and each word may be used where its type is required.
func (w *walk) fit(words []int, types ...int) bool {
	if len(words) != len(types) {
		return false
	}
	for i, t := range types {
		if !kinds.Fits(w.p.Types, words[i], t) {
			return false
		}
	}
	return true
}

// acceptsRet reports whether a Ret gives a result exactly if the function has one, and one that fits it.
func (w *walk) acceptsRet(in api.Instr, taken []int) bool {
	if w.f.Result == api.Void {
		return in.A == 0
	}
	return w.fit(taken, w.f.Result)
}

func (w *walk) hasField(t, field int) bool {
	return isKind(w.p.Types, t, api.Struct) && field < len(w.p.Types[t].Fields)
}

// indexes reports whether the words begin with a Slice and an index into it.
func (w *walk) indexes(words []int) bool {
	return isKind(w.p.Types, words[0], api.Slice) && words[1] == api.Int
}

// method returns what the Face t asks for under the name of an Invoke, and whether it does.
func (w *walk) method(in api.Instr, t int) (api.Method, bool) {
	i, ok := kinds.Method(w.p.Types, t, w.p.Texts[in.A])
	if !ok || w.p.Types[t].Kind != api.Face {
		return api.Method{}, false
	}
	return w.p.Types[t].Methods[i], true
}

// pushes returns the type of the word that an instruction pushes, or Void if it pushes none.
func (w *walk) pushes(in api.Instr, taken []int) int {
	switch in.Op {
	case code.Num, code.Input, code.Add, code.Sub, code.Mul, code.Div, code.Rem, code.Neg, code.TextAt, code.Len:
		return api.Int
	case code.Bit, code.Not, code.Eq, code.Ne, code.Lt, code.Le, code.Gt, code.Ge,
		code.TextEq, code.TextNe, code.TextLt, code.TextLe:
		return api.Bool
	case code.Lit, code.Cat:
		return api.Text
	case code.Null, code.New, code.Make, code.Cast:
		return in.A
	case code.Load:
		return w.f.Locals[in.A]
	case code.Field:
		return w.p.Types[taken[0]].Fields[in.A].Type
	case code.At:
		return w.p.Types[taken[0]].Elem
	case code.Call:
		return w.p.Funcs[in.A].Result
	case code.Invoke:
		m, _ := w.method(in, taken[0])
		return m.Result
	}
	return api.Void
}
