package check

import (
	"turnstone/api"
	"turnstone/kinds"
)

// mostNodes is more than a tree has that was read from a text, which has at most two nodes for each token.
const mostNodes = 4 * api.MaxTokens

// walker goes over a tree in rounds, from left to right, up to the first error.
type walker struct {
	info   Info
	failed api.Errno
	place  api.Place // of the error, once it failed
	own    int       // the declared type whose members are walked
	bodies int       // how many bodies were walked
	body   body      // the one that is walked
}

func newWalker() *walker {
	return &walker{info: Info{Types: kinds.Base()}}
}

// visit walks one node.
type visit func(n *api.Node)

// typing walks one node, and returns the type that it has or names.
type typing func(n *api.Node) int

// fail keeps the first error, which stands at n. It answers Void, the type of what has none.
func (w *walker) fail(n *api.Node, e api.Errno) int {
	if w.failed == api.OK {
		w.failed, w.place = e, api.Place{Line: n.Line, Col: n.Col}
	}
	return api.Void
}

// need fails at n unless ok.
func (w *walker) need(ok bool, n *api.Node, e api.Errno) {
	if !ok {
		w.fail(n, e)
	}
}

// each walks the nodes of l, up to the first error.
func (w *walker) each(l []api.Node, do visit) {
	for i := 0; i < len(l) && w.failed == api.OK; i++ {
		do(&l[i])
	}
}

// types walks the nodes of l, up to the first error, and returns their types.
func (w *walker) types(l []api.Node, of typing) []int {
	var found []int
	w.each(l, func(n *api.Node) {
		found = append(found, of(n))
	})
	return found
}

// kid returns a part of n, or an empty node if there is none, as in a tree that no text has.
func kid(n *api.Node, i int) *api.Node {
	if i >= len(n.Kids) {
		return &api.Node{}
	}
	return &n.Kids[i]
}

// from returns the parts of n from the i-th on.
func from(n *api.Node, i int) []api.Node {
	return n.Kids[min(i, len(n.Kids)):]
}

// ofKind returns the nodes of l that are of one of these kinds.
func ofKind(l []api.Node, wanted ...int) []api.Node {
	var found []api.Node
	for _, n := range l {
		for _, kind := range wanted {
			if n.Kind == kind {
				found = append(found, n)
			}
		}
	}
	return found
}

// count returns how many nodes the tree n has, or a number greater than most if they are more.
func count(n *api.Node, most int) int {
	all := 1
	for i := 0; i < len(n.Kids) && all <= most; i++ {
		all += count(&n.Kids[i], most-all)
	}
	return all
}
