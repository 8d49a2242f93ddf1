package kinds

import (
	"turnstone/api"
)

// noFunc is the Func of a method that is only asked for.
const noFunc = -1

// Right reports whether l may be the types of a program.
func Right(l []api.Type) bool {
	base := Base()
	if len(l) < len(base) || len(l) > api.MaxTypes {
		return false
	}
	for t := range base {
		if !Same(l[t], base[t]) {
			return false
		}
	}
	for t := len(base); t < len(l); t++ {
		if !rightType(l, l[t]) || clashes(l[:t], l[t]) {
			return false
		}
	}
	return true
}

// rightType reports whether a type that is none of Base is right among the types l.
func rightType(l []api.Type, own api.Type) bool {
	switch own.Kind {
	case api.Struct:
		return isNamed(own) && rightFields(l, own.Fields) && rightMethods(l, own)
	case api.Slice:
		return own.Name == "" && isValue(l, own.Elem) && len(own.Fields) == 0 && len(own.Methods) == 0
	case api.Face:
		return isNamed(own) && len(own.Fields) == 0 && rightMethods(l, own)
	}
	return false
}

func isNamed(own api.Type) bool {
	return own.Name != "" && own.Elem == 0
}

func rightFields(l []api.Type, fields []api.Field) bool {
	if len(fields) > api.MaxFields {
		return false
	}
	for i, f := range fields {
		_, twice := fieldNamed(fields[:i], f.Name)
		if twice || !isValue(l, f.Type) {
			return false
		}
	}
	return true
}

func rightMethods(l []api.Type, own api.Type) bool {
	if len(own.Methods) > api.MaxFields {
		return false
	}
	for i, m := range own.Methods {
		_, twice := methodNamed(own.Methods[:i], m.Name)
		_, isField := fieldNamed(own.Fields, m.Name)
		if twice || isField || !rightCall(l, m) || !rightFunc(own.Kind, m.Func) {
			return false
		}
	}
	return true
}

// rightCall reports whether a method's parameters and its result are right.
func rightCall(l []api.Type, m api.Method) bool {
	if len(m.Params) > api.MaxParams {
		return false
	}
	for _, t := range m.Params {
		if !isValue(l, t) {
			return false
		}
	}
	return m.Result == api.Void || isValue(l, m.Result)
}

func rightFunc(kind, f int) bool {
	if kind == api.Face {
		return f == noFunc
	}
	return f >= 0
}

// isValue reports whether t is a value type: one that a field, a parameter or a variable may have.
func isValue(l []api.Type, t int) bool {
	return isType(l, t) && t != api.Void && t != api.Nil
}

// clashes reports whether one of the types before cannot be told from own.
func clashes(before []api.Type, own api.Type) bool {
	for _, b := range before {
		if b.Kind == api.Slice && own.Kind == api.Slice && b.Elem == own.Elem {
			return true
		}
		if b.Kind != api.Slice && own.Kind != api.Slice && b.Name == own.Name {
			return true
		}
	}
	return false
}
