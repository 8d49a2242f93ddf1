package verify

import (
	"slices"

	"turnstone/api"
	"turnstone/kinds"
)

// maxConstants is how many numbers, and how many texts, a program may have.
const maxConstants = 10000

// rightWhole reports whether what belongs to no single function is right.
func rightWhole(p api.Prog) bool {
	if !kinds.Right(p.Types) || len(p.Funcs) > api.MaxFuncs || !rightMain(p) {
		return false
	}
	if len(p.Nums) > maxConstants || len(p.Texts) > maxConstants {
		return false
	}
	for _, s := range p.Texts {
		if len(s) > api.MaxLen {
			return false
		}
	}
	return true
}

func rightMain(p api.Prog) bool {
	if !within(p.Main, len(p.Funcs)) {
		return false
	}
	main := p.Funcs[p.Main]
	return len(main.Params) == 0 && main.Result == api.Void
}

// rightHead reports whether a function may be, apart from its code.
func rightHead(l []api.Type, f api.Func) bool {
	if len(f.Params) > api.MaxParams || len(f.Locals) > api.MaxLocals {
		return false
	}
	if len(f.Params) > len(f.Locals) || !slices.Equal(f.Params, f.Locals[:len(f.Params)]) {
		return false
	}
	// The Params are among the Locals, so that their types need no look of their own.
	for _, t := range f.Locals {
		if !isValue(l, t) {
			return false
		}
	}
	return f.Result == api.Void || isValue(l, f.Result)
}

// rightMethods reports whether each method of a Struct is the function that it names.
func rightMethods(p api.Prog) bool {
	for t, of := range p.Types {
		if of.Kind != api.Struct {
			continue
		}
		for _, m := range of.Methods {
			if !within(m.Func, len(p.Funcs)) || !isMethod(p.Funcs[m.Func], t, m) {
				return false
			}
		}
	}
	return true
}

// isMethod reports whether f takes a receiver of the type t and what m takes, and gives what m gives.
func isMethod(f api.Func, t int, m api.Method) bool {
	return len(f.Params) > 0 && f.Params[0] == t && slices.Equal(f.Params[1:], m.Params) && f.Result == m.Result
}

// isValue reports whether t is a type that a word may have.
func isValue(l []api.Type, t int) bool {
	return within(t, len(l)) && t != api.Void && t != api.Nil
}

// isKind reports whether t is the number of a type of the given kind.
func isKind(l []api.Type, t, kind int) bool {
	return within(t, len(l)) && l[t].Kind == kind
}

func within(i, n int) bool {
	return i >= 0 && i < n
}
