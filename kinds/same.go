package kinds

import (
	"turnstone/api"
)

// Same reports whether a and b are equal in all fields, to their deepest lists.
func Same(a, b api.Type) bool {
	return a.Kind == b.Kind && a.Name == b.Name && a.Elem == b.Elem &&
		sameFields(a.Fields, b.Fields) && sameMethods(a.Methods, b.Methods)
}

func sameFields(a, b []api.Field) bool {
	if len(a) != len(b) {
		return false
	}
	for i := range a {
		if a[i] != b[i] {
			return false
		}
	}
	return true
}

func sameMethods(a, b []api.Method) bool {
	if len(a) != len(b) {
		return false
	}
	for i := range a {
		if a[i].Func != b[i].Func || !sameCall(a[i], b[i]) {
			return false
		}
	}
	return true
}

// sameCall reports whether a and b are called in the same way, whichever functions they lead to.
func sameCall(a, b api.Method) bool {
	return a.Name == b.Name && a.Result == b.Result && sameNumbers(a.Params, b.Params)
}

func sameNumbers(a, b []int) bool {
	if len(a) != len(b) {
		return false
	}
	for i := range a {
		if a[i] != b[i] {
			return false
		}
	}
	return true
}
