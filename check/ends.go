package check

import (
	"turnstone/api"
)

// ends reports whether a function is over, with its result, wherever the statement n is.
func ends(n *api.Node) bool {
	switch n.Kind {
	case api.NReturn:
		return true
	case api.NBlock:
		last := len(n.Kids) - 1
		return last >= 0 && ends(&n.Kids[last])
	case api.NIf:
		return ends(kid(n, 1)) && ends(kid(n, 2))
	case api.NFor:
		return kid(n, 0).Kind == api.NNone && !breaks(kid(n, 1))
	}
	return false
}

// breaks reports whether an NBreak in the statement n leaves the loop that n is in.
func breaks(n *api.Node) bool {
	switch n.Kind {
	case api.NBreak:
		return true
	case api.NFor:
		return false
	}
	for i := range n.Kids {
		if breaks(&n.Kids[i]) {
			return true
		}
	}
	return false
}
