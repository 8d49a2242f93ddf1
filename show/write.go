package show

import (
	"strings"

	"turnstone/api"
)

// writer writes trees that are right.
type writer struct {
	strings.Builder
	blocks int // how many blocks the next line is in
}

// form writes a node.
type form func(n *api.Node)

// put writes these one behind another.
func (w *writer) put(parts ...string) {
	for _, s := range parts {
		w.WriteString(s)
	}
}

func (w *writer) indent() {
	for range w.blocks {
		w.WriteByte('\t')
	}
}

// lines writes each part on a line of its own.
func (w *writer) lines(parts []api.Node, write form) {
	for i := range parts {
		w.indent()
		write(&parts[i])
		w.put("\n")
	}
}

// braced writes lines between braces, and stays on the line of the `}`.
func (w *writer) braced(parts []api.Node, write form) {
	w.put("{\n")
	w.blocks++
	w.lines(parts, write)
	w.blocks--
	w.indent()
	w.put("}")
}

// listed writes parts with commas between them, in parentheses.
func (w *writer) listed(parts []api.Node, write form) {
	w.put("(")
	for i := range parts {
		if i > 0 {
			w.put(", ")
		}
		write(&parts[i])
	}
	w.put(")")
}

// maybe writes a part and what stands before it, unless the part is omitted.
func (w *writer) maybe(before string, n *api.Node, write form) {
	if n.Kind != api.NNone {
		w.put(before)
		write(n)
	}
}

func (w *writer) file(n *api.Node) {
	w.lines(n.Kids, w.decl)
}

func (w *writer) decl(n *api.Node) {
	switch n.Kind {
	case api.NStruct:
		w.structDecl(n)
	case api.NFace:
		w.faceDecl(n)
	case api.NFunc:
		w.funcDecl(n)
	}
}

func (w *writer) structDecl(n *api.Node) {
	w.put("type ", n.Name, " struct ")
	w.braced(n.Kids, w.field)
}

func (w *writer) faceDecl(n *api.Node) {
	w.put("type ", n.Name, " interface ")
	w.braced(n.Kids, w.method)
}

func (w *writer) field(n *api.Node) {
	w.typedName(n)
}

func (w *writer) param(n *api.Node) {
	w.typedName(n)
}

// typedName writes a name and its type.
func (w *writer) typedName(n *api.Node) {
	w.put(n.Name, " ")
	w.anyType(&n.Kids[0])
}

func (w *writer) method(n *api.Node) {
	w.put(n.Name)
	w.listed(n.Kids[1:], w.anyType)
	w.maybe(" ", &n.Kids[0], w.anyType)
}

func (w *writer) funcDecl(n *api.Node) {
	w.put("func ")
	w.maybe("", &n.Kids[0], w.receiver)
	w.put(n.Name)
	w.listed(n.Kids[3:], w.param)
	w.maybe(" ", &n.Kids[1], w.anyType)
	w.put(" ")
	w.block(&n.Kids[2])
}

func (w *writer) receiver(n *api.Node) {
	w.put("(")
	w.param(n)
	w.put(") ")
}

func (w *writer) anyType(n *api.Node) {
	switch n.Kind {
	case api.NTypeName:
		w.typeName(n)
	case api.NSliceOf:
		w.sliceOf(n)
	}
}

func (w *writer) typeName(n *api.Node) {
	w.put(n.Name)
}

func (w *writer) sliceOf(n *api.Node) {
	w.put("[]")
	w.anyType(&n.Kids[0])
}
